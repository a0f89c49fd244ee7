import PyProof.Rows.All
import Wide.All
import OpenK.AllK
import Wide.FinOn
import Lean
import PyProof.EqAt
import PyProof.EqKinds
import PyProof.TupleCall
import PyProof.SetRoads
import PyProof.Rows.SetFrom
import PyProof.StrWalks
import PyProof.FactsAll.set
import PyProof.FactsAll.subtypes_3
import PyProof.CollectWalk
import PyProof.CollectStr
import PyProof.StationsW
import PyProof.RulesAs
import KE.KTryMore
import PyProof.NsDelKeeps
import PyProof.ListStr
import PyProof.TupleOfStr
import PyProof.ConsumeS
import KE.KEqDict
import PyProof.DictWalks
import PyProof.DictUpdate
import KE.KLam
import PyProof.DictDisplay
import PySem.Challenge.RW_lackword_k61_lists_let_by
set_option Elab.async false
set_option linter.all false
set_option maxRecDepth 100000
namespace L2
open PySem PySem.Spec PyProof.Rows
abbrev Key:=Sum Int Str
def keyIs:Key→Value→Bool
 | .inl k,v=>Value.isInt k v
 | .inr x,v=>Value.isStrOf x v
def keyH (w:World):Key→Int
 | .inl k=>hashInt k
 | .inr x=>hashStr w x
theorem keyIs_shape:∀ {k:Key} {v:Value},keyIs k v=true→(∃i t,k=Sum.inl i∧v=Value.int i t)∨(∃x t,k=Sum.inr x∧v=Value.str x t)
 | .inl i,v,h=>by
  obtain⟨t,e⟩:=Value.isInt_shape (k:=i) (v:=v) h
  exact .inl ⟨i,t,rfl,e⟩
 | .inr x,v,h=>by
  obtain⟨t,e⟩:=Value.isStrOf_shape (x:=x) (v:=v) h
  exact .inr ⟨x,t,rfl,e⟩
theorem keyIs_int (i:Int)(t:Tok):keyIs (.inl i) (.int i t)=true:=by simp[keyIs,Value.isInt]
theorem keyIs_str (x:Str)(t:Tok):keyIs (.inr x) (.str x t)=true:=by simp[keyIs,Value.isStrOf]
theorem key_ll (a b:Int):decide ((Sum.inl a:Key)=Sum.inl b)=(a == b):=by
 by_cases e:a=b
 ·subst e;simp
 ·have h:¬(Sum.inl a:Key)=Sum.inl b:=fun q=>e (Sum.inl.inj q)
  rw[decide_eq_false h]
  exact(beq_eq_false_iff_ne.mpr e).symm
theorem key_rr (a b:Str):decide ((Sum.inr a:Key)=Sum.inr b)=decide (a=b):=by
 by_cases e:a=b
 ·subst e;simp
 ·have h:¬(Sum.inr a:Key)=Sum.inr b:=fun q=>e (Sum.inr.inj q)
  rw[decide_eq_false h,decide_eq_false e]
theorem key_lr (a:Int)(b:Str):decide ((Sum.inl a:Key)=Sum.inr b)=false:=decide_eq_false (fun q=>nomatch q)
theorem key_rl (a:Str)(b:Int):decide ((Sum.inr a:Key)=Sum.inl b)=false:=decide_eq_false (fun q=>nomatch q)
def mixKind (prog:Program)(w:World):PySem.KeyKind prog w Key where
 is:=keyIs
 hash:=keyH w
 inj:=fun v a b ha hb=>by
  rcases keyIs_shape ha with⟨i,t,rfl,rfl⟩|⟨x,t,rfl,rfl⟩
  ·rcases keyIs_shape hb with⟨j,u,rfl,e⟩|⟨y,u,rfl,e⟩
   ·injection e with e1 _;rw[e1]
   ·exact nomatch e
  ·rcases keyIs_shape hb with⟨j,u,rfl,e⟩|⟨y,u,rfl,e⟩
   ·exact nomatch e
   ·injection e with e1 _;rw[e1]
 byValue:=fun k v h=>by
  rcases keyIs_shape h with⟨i,t,rfl,rfl⟩|⟨x,t,rfl,rfl⟩<;>rfl
 pyHash:=fun hv h=>by
  rcases keyIs_shape hv with⟨i,t,rfl,rfl⟩|⟨x,t,rfl,rfl⟩
  ·exact wpAny_pyHash_int h
  ·exact wpAny_pyHash_str h
 eqBool:=fun hu hv h=>by
  rcases keyIs_shape hu with⟨i,t,rfl,rfl⟩|⟨x,t,rfl,rfl⟩
  ·rcases keyIs_shape hv with⟨j,u,rfl,rfl⟩|⟨y,u,rfl,rfl⟩
   ·rw[key_ll]at h;exact wpAny_eqBool_int h
   ·rw[key_lr]at h;exact SeqAt.EqAt.int_str i t y u _ _ _ _ h
  ·rcases keyIs_shape hv with⟨j,u,rfl,rfl⟩|⟨y,u,rfl,rfl⟩
   ·rw[key_rl]at h;exact SeqAt.EqAt.str_int x t j u _ _ _ _ h
   ·rw[key_rr]at h;exact wpAny_eqBool_str h
 «strs»:=fun k x t v h=>by
  rcases keyIs_shape h with⟨i,u,rfl,e⟩|⟨y,u,rfl,e⟩
  ·exact nomatch e
  ·injection e with e1 _
   subst e1
   cases v<;>rfl
theorem mixKind_int (prog:Program)(w:World)(i:Int)(t:Tok):(mixKind prog w).is (.inl i) (.int i t)=true:=keyIs_int i t
theorem mixKind_str (prog:Program)(w:World)(x:Str)(t:Tok):(mixKind prog w).is (.inr x) (.str x t)=true:=keyIs_str x t
inductive V where
 | non | bl (b:Bool) | int (i:Int) | str (x:Str) | byt (b:Array UInt8) | flt (b:UInt64) | ref (a:Addr) | ty (n:String)
 deriving DecidableEq
def RelV:V→Value→Prop
 | .non,u=>u=Value.none
 | .bl b,u=>u=Value.bool b
 | .int i,u=>∃t,u=Value.int i t
 | .str x,u=>∃t,u=Value.str x t
 | .byt b,u=>∃t,u=Value.bytes b t
 | .flt b,u=>∃t,u=Value.float b t
 | .ref a,u=>u=Value.ref a
 | .ty n,u=>u=Value.type n
abbrev Vals:List V→List Value→Prop:=Paired RelV
theorem Vals.length {xs:List V}{us:List Value}(r:Vals xs us):xs.length=us.length:=Paired.length r
theorem Vals.get:∀ {xs:List V} {us:List Value} {i:Nat} {x:V},Vals xs us→xs[i]?=some x→∃u,us[i]?=some u∧RelV x u
 | _,_,_,_,.nil,e=>by simp at e
 | _,_,0,_,.cons r _,e=>by simp at e;subst e;exact⟨_,rfl,r⟩
 | _,_,i+1,x,.cons _ t,e=>by
  obtain⟨u,h1,h2⟩:=Vals.get (i:=i) (x:=x) t (by simpa using e)
  exact⟨u,by simpa using h1,h2⟩
theorem Vals.set {x:V}{u:Value}(r:RelV x u):∀ {xs:List V} {us:List Value} (i:Nat),Vals xs us→Vals (xs.set i x) (us.set i u)
 | _,_,_,.nil=>.nil
 | _,_,0,.cons _ t=>.cons r t
 | _,_,i+1,.cons q t=>.cons q (Vals.set r i t)
theorem Vals.append:∀ {xs ys:List V} {us ws:List Value},Vals xs us→Vals ys ws→Vals (xs++ys) (us++ws)
 | _,_,_,_,.nil,s=>s
 | _,_,_,_,.cons r t,s=>.cons r (Vals.append t s)
theorem Vals.take:∀ {xs:List V} {us:List Value} (n:Nat),Vals xs us→Vals (xs.take n) (us.take n)
 | _,_,0,_=>.nil
 | _,_,_+1,.nil=>.nil
 | _,_,n+1,.cons r t=>.cons r (Vals.take n t)
theorem Vals.drop:∀ {xs:List V} {us:List Value} (n:Nat),Vals xs us→Vals (xs.drop n) (us.drop n)
 | _,_,0,r=>r
 | _,_,_+1,.nil=>.nil
 | _,_,n+1,.cons _ t=>Vals.drop n t
def RelO:Option V→Option Value→Prop
 | some v,some u=>RelV v u
 | none,none=>True
 | _,_=>False
def KV {κ:Type}:List (κ×V)→List (κ×Value)→Prop:=Paired fun (p:κ×V) (q:κ×Value)=>p.1=q.1∧RelV p.2 q.2
def kV:Key→V
 | .inl i=>.int i
 | .inr x=>.str x
inductive HO where
 | lst (xs:List V)
 | tup (xs:List V)
 | dK (kvs:List (Key×V)) | dT (kvs:List (List Key×V))
 | set (S:Int→Bool) (n:Nat)
 | ins (C dx:Addr) (fs:List (Str×V))
 | own (x:Addr)
 | xd (fs:List (Str×V))
 | met (f x:Addr)
 | rng (lo hi:Int)
 | frz (o:Obj) (u:HO)
 | tbl (ps:Array Value)
 | ext (φ:Heap→Prop)
abbrev Hp:=Addr→Option HO
def upd (H:Hp)(a:Addr)(o:HO):Hp:=fun b=>if b=a then some o else H b
theorem upd_same {H:Hp}{a:Addr}{o:HO}:upd H a o a=some o:=by unfold upd;rw[if_pos rfl]
theorem upd_ne {H:Hp}{a b:Addr}{o:HO}(h:b≠a):upd H a o b=H b:=by unfold upd;rw[if_neg h]
theorem ne_of {H:Hp}{a b:Addr}{o u:HO}(h:H a=some o)(h':H b=some u)(d:o≠u):a≠b:=by
 intro e;subst e;rw[h]at h';exact d (Option.some.inj h')
theorem ne_of_none {H:Hp}{a b:Addr}{o:HO}(h:H a=some o)(h':H b=none):a≠b:=by
 intro e;subst e;rw[h]at h';cases h'
section
variable (P:Program)(w:World)
def ObjOk (H:Hp)(h:Heap)(a:Addr):HO→Prop
 | .lst xs=>xs.length≤sizeLine∧∃(its:List Value) (n:Nat),Vals xs its∧h.get? a=some { cls:=.type "list",data:=.seq its.toArray n }
 | .tup xs=>xs.length≤sizeLine∧∃its:List Value,Vals xs its∧IsTup h a its.toArray
 | .dK kvs=>kvs.length≤sizeLine∧(a == sysModules)=false∧∃vs,KV kvs vs∧h.DictOf (mixKind P w) a vs
 | .dT kvs=>kvs.length≤sizeLine∧(a == sysModules)=false∧∃xs:List (List Key×Addr×Value),
   Paired (fun (p:List Key×V) (q:List Key×Addr×Value)=>p.1=q.1∧H q.2.1=some (.tup (p.1.map kV))∧RelV p.2 q.2.2) kvs xs ∧
   ∃o es ep,h.get? a=some o∧o.ExactDict∧o.data=.dict es ep∧es.toList=xs.map (entryOfKey (tupleKind (mixKind P w)))∧(xs.map (·.1)).Nodup
 | .set S n=>h.SetOf (intKind P w) a S n
 | .ins C dx fs=>H dx=some (.own a)∧fs.length≤1000∧dx≠a∧h.get? a=some (PySem.W.instObj C dx) ∧
   ∃mA,h.Ns1 dx mA∧(∀f,RelO (fs.lookup f) (mA f))∧PySem.Within mA (fs.map (·.1))
 | .own _=>∃o,h.get? a=some o
 | .xd fs=>∃mA,h.Ns1 a mA∧∀f,RelO (fs.lookup f) (mA f)
 | .rng lo hi=>∃t u v,h.get? a=some { cls:=.type "range",data:=.fields #[.int lo t,.int hi u,.int 1 v] }
 | .frz o u=>h.get? a=some o∧ObjOk H h a u
 | .tbl ps=>h.get? a=some { cls:=.none,data:=.fields ps }
 | .met f x=>h.get? a=some (PySem.W.methodObj (.ref f) (.ref x))
 | .ext φ=>φ h∧(∃o,h.get? a=some o)∧∀h1 h2:Heap,φ h1→(∀o,h1.get? a=some o→h2.get? a=some o)→φ h2
def HOk (H:Hp)(h:Heap):Prop:=∀a o,H a=some o→ObjOk P w H h a o
end
section
variable {P:Program}{w:World}{H H':Hp}{h h':Heap}{a:Addr}{o:HO}
theorem ObjOk.lt (x:ObjOk P w H h a o):a<h.objs.size:=by
 cases o with
 | lst xs=>obtain⟨_,_,_,_,e⟩:=x;exact Heap.lt_size e
 | tup xs=>obtain⟨_,_,_,p⟩:=x;exact p.lt
 | dK kvs=>obtain⟨_,_,_,_,o,_,_,e,_⟩:=x;exact Heap.lt_size e
 | dT kvs=>obtain⟨_,_,_,_,o,_,_,e,_⟩:=x;exact Heap.lt_size e
 | set S n=>obtain⟨o,_,_,_,e,_⟩:=x;exact Heap.lt_size e
 | ins C dx fs=>obtain⟨_,_,_,e,_⟩:=x;exact Heap.lt_size e
 | own y=>obtain⟨_,e⟩:=x;exact Heap.lt_size e
 | xd fs=>obtain⟨_,⟨_,_,_,e,_⟩,_⟩:=x;exact Heap.lt_size e
 | rng lo hi=>obtain⟨_,_,_,e⟩:=x;exact Heap.lt_size e
 | frz ob u=>obtain⟨e,_⟩:=x;exact Heap.lt_size e
 | tbl ps=>exact Heap.lt_size (show h.get? a=some _ from x)
 | met f y=>exact Heap.lt_size (show h.get? a=some _ from x)
 | ext φ=>obtain⟨_,⟨_,e⟩,_⟩:=x;exact Heap.lt_size e
theorem Paired.mapP {α β:Type}{F G:α→β→Prop}:∀ {l₁:List α} {l₂:List β},Paired F l₁ l₂→(∀a b,F a b→G a b)→Paired G l₁ l₂
 | _,_,.nil,_=>.nil
 | _,_,.cons r t,f=>.cons (f _ _ r) (Paired.mapP t f)
theorem ObjOk.stay (x:ObjOk P w H h a o)(k:∀b u,(b=a∨H b=some (.own a))→h.get? b=some u→h'.get? b=some u)
  (ho:∀b,H b=some (.own a)→H' b=some (.own a)) (ht:∀b xs,H b=some (.tup xs)→H' b=some (.tup xs)):ObjOk P w H' h' a o:=by
 induction o with
 | lst xs=>obtain⟨z,its,n,r,e⟩:=x;exact⟨z,its,n,r,k _ _ (.inl rfl) e⟩
 | tup xs=>obtain⟨z,its,r,ob,e,c⟩:=x;exact⟨z,its,r,ob,k _ _ (.inl rfl) e,c⟩
 | dK kvs=>obtain⟨z,y,vs,r,ob,es,ep,e,c⟩:=x;exact⟨z,y,vs,r,ob,es,ep,k _ _ (.inl rfl) e,c⟩
 | dT kvs=>
  obtain⟨z,y,xs,r,ob,es,ep,e,c⟩:=x
  exact⟨z,y,xs,Paired.mapP r fun p q z=>⟨z.1,ht _ _ z.2.1,z.2.2⟩,ob,es,ep,k _ _ (.inl rfl) e,c⟩
 | set S n=>obtain⟨ob,es,ep,t,e,c⟩:=x;exact⟨ob,es,ep,t,k _ _ (.inl rfl) e,c⟩
 | ins C dx fs=>
  obtain⟨d,z,ne,e,mA,⟨od,es,ep,e2,c⟩,r⟩:=x
  exact⟨ho _ d,z,ne,k _ _ (.inl rfl) e,mA,⟨od,es,ep,k _ _ (.inr d) e2,c⟩,r⟩
 | own y=>obtain⟨ob,e⟩:=x;exact⟨ob,k _ _ (.inl rfl) e⟩
 | xd fs=>obtain⟨mA,⟨od,es,ep,e,c⟩,r⟩:=x;exact⟨mA,⟨od,es,ep,k _ _ (.inl rfl) e,c⟩,r⟩
 | rng lo hi=>obtain⟨t,u,v,e⟩:=x;exact⟨t,u,v,k _ _ (.inl rfl) e⟩
 | frz ob u ih=>obtain⟨e,q⟩:=x;exact⟨k _ _ (.inl rfl) e,ih q⟩
 | tbl ps=>
  have e:h.get? a=some { cls:=.none,data:=.fields ps }:=x
  show h'.get? a=some { cls:=.none,data:=.fields ps }
  exact k a _ (.inl rfl) e
 | met f y=>
  have e:h.get? a=some (PySem.W.methodObj (.ref f) (.ref y)):=x
  show h'.get? a=some (PySem.W.methodObj (.ref f) (.ref y))
  exact k a _ (.inl rfl) e
 | ext φ=>obtain⟨p,⟨o,e⟩,st⟩:=x;exact⟨st _ _ p fun o q=>k _ _ (.inl rfl) q,⟨o,k _ _ (.inl rfl) e⟩,st⟩
theorem HOk.lt (x:HOk P w H h)(e:H a=some o):a<h.objs.size:=(x a o e).lt
theorem HOk.fresh (x:HOk P w H h)(e:h.objs.size≤a):H a=none:=by
 cases q:H a with
 | none=>rfl
 | some u=>exact absurd (Nat.lt_of_lt_of_le (x.lt q) e) (Nat.lt_irrefl _)
theorem HOk.kept (x:HOk P w H h)(k:∀b u,h.get? b=some u→h'.get? b=some u):HOk P w H h':=fun a o e=>
 (x a o e).stay (fun b u _ q=>k b u q) (fun _ q=>q) fun _ _ q=>q
theorem HOk.laid (x:HOk P w H h)(k:∀b u,h.get? b=some u→h'.get? b=some u)(hp:h.objs.size≤a)(new:ObjOk P w (upd H a o) h' a o):HOk P w (upd H a o) h':=fun b u e=>by
 have hn:=x.fresh hp
 by_cases hb:b=a
 ·subst hb;rw[upd_same]at e;cases e;exact new
 ·rw[upd_ne hb]at e
  exact(x b u e).stay (fun c v _ q=>k c v q) (fun c q=>by rw[upd_ne (ne_of_none q hn)];exact q) fun c xs q=>by rw[upd_ne (ne_of_none q hn)];exact q
end
def Rd (H:Hp)(a:Addr)(u:HO):Prop:=H a=some u∨∃o,H a=some (.frz o u)
theorem Rd.ok {P:Program}{w:World}{H:Hp}{h:Heap}{a:Addr}{u:HO}(r:Rd H a u)(x:HOk P w H h):ObjOk P w H h a u:=by
 rcases r with r | ⟨o,r⟩
 ·exact x a u r
 ·obtain⟨_,q⟩:=x a _ r
  exact q
def Mut:Option HO→Prop
 | some (.lst _)=>True
 | some (.dK _)=>True
 | some (.dT _)=>True
 | some (.set _ _)=>True
 | some (.ins _ _ _)=>True
 | some (.ext _)=>True
 | _=>False
section
variable {P:Program}{w:World}{H:Hp}{h h':Heap}{x e:Addr}{o':HO}
theorem HOk.write (ok:HOk P w H h)(mu:Mut (H x))(he:e=x∨H e=some (.own x))(k:∀b u,b≠e→h.get? b=some u→h'.get? b=some u)(heo:∃u,h'.get? e=some u)
  (new:ObjOk P w (upd H x o') h' x o'):HOk P w (upd H x o') h':=fun b u q=>by
 have nown:∀c y,H c=some (.own y)→c≠x:=fun c y r z=>by subst z;rw[r]at mu;exact mu
 have ntup:∀c xs,H c=some (.tup xs)→c≠x:=fun c xs r z=>by subst z;rw[r]at mu;exact mu
 by_cases hb:b=x
 ·subst hb;rw[upd_same]at q;cases q;exact new
 ·rw[upd_ne hb]at q
  by_cases hbe:b=e
  ·have q':H b=some (.own x):=by
    rcases he with z | z
    ·exact absurd (hbe.trans z) hb
    ·rw[hbe];exact z
   rw[q]at q';cases q'
   obtain⟨v,hv⟩:=heo
   exact⟨v,by rw[hbe];exact hv⟩
  ·refine(ok b u q).stay (fun c v hc r=>k c v ?_ r) (fun c r=>by rw[upd_ne (nown c b r)];exact r) fun c xs r=>by rw[upd_ne (ntup c xs r)];exact r
   rcases hc with rfl | hc
   ·exact hbe
   ·rintro rfl
    rcases he with z | z
    ·exact nown c b hc z
    ·rw[hc]at z;cases z;exact hb rfl
end
structure Un (fs ex:List Addr)(H H':Hp)(h h':Heap):Prop where
 keep:∀b o,h.get? b=some o→H b=none→b∉fs→b∉ex→h'.get? b=some o
 slot:∀b o,h.get? b=some o→H b=none→b∈fs→b∉ex→∃sl,h'.get? b=some { o with slots:=sl }
 free:∀b o,h.get? b=some o→H b=none→b∉ex→H' b=none
 there:∀b o,h.get? b=some o→b∉ex→∃o',h'.get? b=some o'
 tups:∀b xs,H b=some (.tup xs)→H' b=some (.tup xs)
 frzs:∀b o u,H b=some (.frz o u)→H' b=some (.frz o u)
 tbls:∀b ps,H b=some (.tbl ps)→∃more,H' b=some (.tbl (ps++more))
section
variable {fs fs' ex ex':List Addr}{H H1 H2:Hp}{h h1 h2 h':Heap}{a x e:Addr}{o:HO}
theorem Un.any (u:Un fs ex H H1 h h1){b:Addr}{ob:Obj}(q:h.get? b=some ob)(n:H b=none)(hx:b∉ex):∃sl,h1.get? b=some { ob with slots:=sl }:=by
 by_cases hb:b∈fs
 ·exact u.slot b ob q n hb hx
 ·exact⟨ob.slots,u.keep b ob q n hb hx⟩
theorem Un.kept (k:∀b u,h.get? b=some u→h'.get? b=some u):Un fs ex H H h h':=
 ⟨fun b ob q _ _ _=>k b ob q,fun b ob q _ _ _=>⟨ob.slots,k b ob q⟩,fun _ _ _ n _=>n,fun b ob q _=>⟨ob,k b ob q⟩,fun _ _ q=>q,fun _ _ _ q=>q,fun _ ps q=>⟨#[],by rw[q];simp⟩⟩
theorem Un.refl:Un fs ex H H h h:=Un.kept fun _ _ q=>q
theorem Un.laid (k:∀b u,h.get? b=some u→h'.get? b=some u)(hp:h.objs.size≤a)(hn:H a=none):Un fs ex H (upd H a o) h h' where
 keep:=fun b u q _ _ _=>k b u q
 slot:=fun b u q _ _ _=>⟨u.slots,k b u q⟩
 free:=fun b u q n _=>by rw[upd_ne (Nat.ne_of_lt (Nat.lt_of_lt_of_le (Heap.lt_size q) hp))];exact n
 there:=fun b u q _=>⟨u,k b u q⟩
 tups:=fun b xs q=>by rw[upd_ne (ne_of_none q hn)];exact q
 frzs:=fun b u xs q=>by rw[upd_ne (ne_of_none q hn)];exact q
 tbls:=fun b ps q=>⟨#[],by rw[upd_ne (ne_of_none q hn),q];simp⟩
theorem Un.write (mu:Mut (H x))(he:e=x∨H e=some (.own x))(k:∀b u,b≠e→h.get? b=some u→h'.get? b=some u)(heo:∃u,h'.get? e=some u):Un fs ex H (upd H x o) h h':=by
 have hx:∀b,H b=none→b≠x:=fun b n z=>by subst z;rw[n]at mu;exact mu
 have hb:∀b,H b=none→b≠e:=fun b n z=>by
  subst z
  rcases he with r | r
  ·exact hx b n r
  ·rw[n]at r;cases r
 have hm:∀b u,H b=some u→¬Mut (some u)→b≠x:=fun b u q nm z=>by subst z;rw[q]at mu;exact nm mu
 refine⟨fun b u q n _ _=>k b u (hb b n) q,fun b u q n _ _=>⟨u.slots,k b u (hb b n) q⟩,fun b u q n _=>by rw[upd_ne (hx b n)];exact n,fun b u q _=>?_,
  fun b xs q=>by rw[upd_ne (hm b _ q fun z=>z)];exact q,fun b u xs q=>by rw[upd_ne (hm b _ q fun z=>z)];exact q,fun b ps q=>⟨#[],by rw[upd_ne (hm b _ q fun z=>z),q];simp⟩⟩
 by_cases hbe:b=e
 ·subst hbe;exact heo
 ·exact⟨u,k b u hbe q⟩
end
def trk (h:Heap)(H:Hp):List Addr:=(List.range h.objs.size).filter fun a=>(H a).isSome
def hidT (h:Heap)(H:Hp):Heap:=PySem.W.hideAll h (trk h H)
theorem hidT_size (h:Heap)(H:Hp):(hidT h H).objs.size=h.objs.size:=PySem.W.hideAll_size _ _
theorem hidT_get {h:Heap}{H:Hp}{b:Addr}{o:Obj}(e:h.get? b=some o)(n:H b=none):(hidT h H).get? b=some o:=
 PySem.W.hideAll_get _ e fun hm=>by
  have q:(H b).isSome=true:=(List.mem_filter.mp hm).2
  rw[n]at q;simp at q
theorem of_hidT {h:Heap}{H:Hp}{b:Addr}{o:Obj}(e:(hidT h H).get? b=some o):h.get? b=some o∧H b=none:=by
 have e':h.get? b=some o:=PySem.W.of_hideAll (trk h H) e
 refine⟨e',?_⟩
 cases q:H b with
 | none=>rfl
 | some x=>
  have hm:b∈trk h H:=List.mem_filter.mpr ⟨List.mem_range.mpr (Heap.lt_size e'),by simp[q]⟩
  have z:(hidT h H).get? b=none:=PySem.W.hideAll_none (trk h H) hm
  rw[z]at e;cases e
def allNews (g h:Heap)(L:Addr):List (Addr×Obj):=(List.range h.objs.size).filterMap fun a=>if a=L∨(g.get? a).isSome=true then none else (h.get? a).map fun o=>(a,o)
def rest (g h:Heap)(L d:Addr):List (Addr×Obj):=(allNews g h L).filter fun p=>decide (p.1≠d)
structure Mod (K:PySem.W.Frag)(mg:Str→Option Value)(base:Heap):Prop where
 kin:K.In base
 glob:base.Ns mainGlobals mg
 blt:∃mb,base.Ns builtinsNs mb∧∀x:Str,x≠"__name__"→mb x=bootBuiltins x
 nolimit:base.NoLimit
structure Cx where
 prog:Program
 w:World
 K:PySem.W.Frag
 mg:Str→Option Value
 base:Heap
 A:Around
 N:List Str
 s₀:Shared
 H₀:Hp
 env:Env
 outer:List Env
 stack:List Env
 ex:List Addr
 fn:Str→Bool
 calm:Bool
 pn:List (Addr×Obj)
 xe:Value→Shared→Prop
def frs (l:List Env):List Addr:=l.filterMap (·.frame)
abbrev Cx.fs (X:Cx):List Addr:=frs X.outer
def Vis (sc:Scope)(x:Str):Prop:=sc.names.lookup x=some .local∨sc.names.lookup x=some .cell∨sc.names.lookup x=some .free
def Loc (sc:Scope)(x:Str):Prop:=sc.names.lookup x=some .local∨sc.names.lookup x=some .cell
def Look (env:Env)(h:Heap)(m:Str→Option Value)(x:Str)(u:Value):Prop:=
 (env.kindOf x=some .local∧m x=some u)∨((env.kindOf x=some .cell∨env.kindOf x=some .free)∧∃c,env.cells.lookup x=some c∧h.IsCell c (some u))
structure Cx.Ok (X:Cx):Prop where
 mod:Mod X.K X.mg X.base
 kind:X.env.scope.kind=.function
 glob:X.env.globals=mainGlobals
 blt:X.env.builtins=builtinsNs
 above:X.s₀.heap.objs.size≤X.env.locals
 inj:∀x y c,X.env.cells.lookup x=some c→X.env.cells.lookup y=some c→x=y
 has:∀x,(X.env.kindOf x=some .cell∨X.env.kindOf x=some .free)→∃c,X.env.cells.lookup x=some c
 cab:∀x c,X.fn x=true→X.env.cells.lookup x=some c→X.s₀.heap.objs.size≤c
 hd:X.calm=true→X.A.handled=none
 frames:X.A.frames=some X.stack
 stk:X.stack=X.outer∨(X.stack=X.env::X.outer∧X.env.frame=some X.env.locals)
 exf:∀b∈X.ex,b≠X.env.locals∧∀x c,X.env.cells.lookup x=some c→c≠b
 bs:∀b o,X.base.get? b=some o→X.s₀.heap.get? b=some o∧X.H₀ b=none
 bsz:X.base.objs.size≤X.s₀.heap.objs.size
 noex:∀b o,X.base.get? b=some o→b∉X.ex
 exfs:∀b∈X.ex,b∉X.fs
 funs:X.s₀.heap.FunFrames X.base X.outer
 frf:∀b∈X.fs,X.H₀ b=none
structure Inv (X:Cx)(pins:List (Addr×Obj))(σ:List (Option V))(H:Hp)(s:Shared):Prop where
 ok:X.Ok
 os:s.os=X.s₀.os
 bare:AllBare s.gens
 base:Un X.fs X.ex X.H₀ H X.s₀.heap s.heap
 loc:∃m,s.heap.Ns X.env.locals m∧∀(i:Nat) (x:Str) (v:V),X.N[i]?=some x→σ[i]?=some (some v)→Vis X.env.scope x→∃u,RelV v u∧Look X.env s.heap m x u
 cell:∀x c,X.env.cells.lookup x=some c→∃v,s.heap.IsCell c v
 free:H X.env.locals=none
 freeC:∀x c,X.env.cells.lookup x=some c→H c=none
 pin:∀p∈X.pn++pins,s.heap.get? p.1=some p.2∧H p.1=none∧p.1≠X.env.locals∧p.1∉X.fs∧∀v,p.2.data≠.cell v
 hok:HOk X.prog X.w H s.heap
 len:σ.length=X.N.length
section
variable {X:Cx}{pins:List (Addr×Obj)}{σ:List (Option V)}{H H':Hp}{s:Shared}{h':Heap}
theorem Cx.Ok.nofr (ok:X.Ok){b:Addr}{o:Obj}(e:X.base.get? b=some o):b∉X.fs:=fun hb=>by
 have:=(ok.funs.mem hb).1
 rw[e]at this;cases this
theorem Inv.bs (I:Inv X pins σ H s):∀b o,X.base.get? b=some o→s.heap.get? b=some o∧H b=none:=fun b o e=>
 ⟨I.base.keep b o (I.ok.bs b o e).1 (I.ok.bs b o e).2 (I.ok.nofr e) (I.ok.noex b o e),I.base.free b o (I.ok.bs b o e).1 (I.ok.bs b o e).2 (I.ok.noex b o e)⟩
theorem Inv.bk (I:Inv X pins σ H s):∀b o,X.base.get? b=some o→s.heap.get? b=some o:=fun b o e=>(I.bs b o e).1
theorem Inv.mod (I:Inv X pins σ H s):Mod X.K X.mg X.base:=I.ok.mod
theorem Inv.kIn (I:Inv X pins σ H s):X.K.In s.heap:=I.ok.mod.kin.keeps I.bk
theorem Inv.lt (I:Inv X pins σ H s):X.env.locals<s.heap.objs.size:=let ⟨_,hn,_⟩:=I.loc;hn.lt
theorem Inv.sz (I:Inv X pins σ H s):X.s₀.heap.objs.size≤s.heap.objs.size:=Nat.le_trans I.ok.above (Nat.le_of_lt I.lt)
theorem Inv.nofs (I:Inv X pins σ H s){a:Addr}(h:s.heap.objs.size≤a):a∉X.fs:=fun hb=>by
 obtain⟨_,o,ho,_⟩:=I.ok.funs.mem hb
 exact absurd (Nat.lt_of_lt_of_le (Heap.lt_size ho) (Nat.le_trans I.sz h)) (Nat.lt_irrefl _)
theorem Inv.cne (I:Inv X pins σ H s):∀x c,X.env.cells.lookup x=some c→c≠X.env.locals:=fun x c e z=>by
 obtain⟨v,o,ho,hd⟩:=I.cell x c e
 obtain⟨m,⟨o',es,ep,ho',hd',_⟩,_⟩:=I.loc
 rw[z,ho']at ho;cases ho;rw[hd']at hd;cases hd
theorem Inv.funs (I:Inv X pins σ H s):s.heap.FunFrames X.base X.outer:=by
 have all:∀(l:List Env),(∀b∈frs l,b∈X.fs)→X.s₀.heap.FunFrames X.base l→s.heap.FunFrames X.base l:=by
  intro l
  induction l with
  | nil=>intro _ _;trivial
  | cons env r ih=>
   intro hs hl
   obtain⟨hk,⟨L,o,hf,hn,ho,hd⟩,hr⟩:=hl
   have hL:L∈X.fs:=hs L (by unfold frs;rw[List.filterMap_cons,hf];exact List.mem_cons_self)
   obtain⟨sl,e⟩:=I.base.slot L o ho (I.ok.frf L hL) hL fun z=>I.ok.exfs L z hL
   exact⟨hk,⟨L,_,hf,hn,e,hd⟩,ih (fun b hb=>hs b (by unfold frs;rw[List.filterMap_cons,hf];exact List.mem_cons_of_mem _ hb)) hr⟩
 exact all X.outer (fun _ hb=>hb) I.ok.funs
theorem Inv.stack (I:Inv X pins σ H s):s.heap.FunFrames X.base X.stack:=by
 rcases I.ok.stk with e | ⟨e,hf⟩
 ·rw[e];exact I.funs
 ·rw[e]
  obtain⟨m,hn,_⟩:=I.loc
  refine .cons (by rw[I.ok.kind];decide) hf hn ?_ I.funs
  exact Heap.get?_none_of_le (Nat.le_trans I.ok.bsz I.ok.above)
theorem Inv.stkSub (I:Inv X pins σ H s):∀b∈frs X.stack,b∈X.env.locals::X.fs:=fun b hb=>by
 rcases I.ok.stk with e | ⟨e,hf⟩
 ·rw[e]at hb;exact List.mem_cons_of_mem _ hb
 ·rw[e]at hb
  unfold frs at hb
  rw[List.filterMap_cons,hf]at hb
  exact hb
theorem Inv.stkFree (I:Inv X pins σ H s):∀b∈frs X.stack,H b=none:=fun b hb=>by
 rcases List.mem_cons.mp (I.stkSub b hb) with e | hb
 ·rw[e];exact I.free
 ·obtain⟨_,o,ho,_⟩:=I.ok.funs.mem hb
  exact I.base.free b o ho (I.ok.frf b hb) fun z=>I.ok.exfs b z hb
theorem Inv.step {g':Array GenState}{t':Nat}{d':Drawn}{ch:List Addr}(I:Inv X pins σ H s)
  (hch:∀b∈ch,(b∈X.ex∨X.s₀.heap.objs.size≤b)∧b≠X.env.locals∧(∀x c,X.env.cells.lookup x=some c→c≠b)∧∀p∈X.pn++pins,p.1≠b)
  (keep:∀b o,b≠X.env.locals→b∉X.fs→b∉ch→s.heap.get? b=some o→H b=none→h'.get? b=some o)
  (slot:∀b o,b≠X.env.locals→b∈X.fs→b∉ch→s.heap.get? b=some o→H b=none→∃sl,h'.get? b=some { o with slots:=sl }) (free:∀b o,b∉ch→s.heap.get? b=some o→H b=none→H' b=none)
  (there:∀b o,b∉ch→s.heap.get? b=some o→∃o',h'.get? b=some o')
  (tups:∀b xs,H b=some (.tup xs)→H' b=some (.tup xs)) (frzs:∀b o u,H b=some (.frz o u)→H' b=some (.frz o u)) (tbls:∀b ps,H b=some (.tbl ps)→∃more,H' b=some (.tbl (ps++more)))
  (ns:∀m,s.heap.Ns X.env.locals m→h'.Ns X.env.locals m) (hok:HOk X.prog X.w H' h') (hg:AllBare g'):
  Inv X pins σ H' { s with heap:=h',gens:=g',drawn:=d',toks:=t' }:=by
 have neL:∀b o,X.s₀.heap.get? b=some o→b≠X.env.locals:=fun b o e=>Nat.ne_of_lt (Nat.lt_of_lt_of_le (Heap.lt_size e) I.ok.above)
 have neC:∀b o,X.s₀.heap.get? b=some o→b∉X.ex→b∉ch:=fun b o e hx hb=>by
  rcases (hch b hb).1 with z | z
  ·exact hx z
  ·exact absurd (Nat.lt_of_lt_of_le (Heap.lt_size e) z) (Nat.lt_irrefl _)
 have cellK:∀x c,X.env.cells.lookup x=some c→∀v,s.heap.IsCell c v→h'.IsCell c v:=fun x c e v ⟨o,ho,hd⟩=>by
  have nch:c∉ch:=fun z=>(hch c z).2.2.1 x c e rfl
  by_cases hc:c∈X.fs
  ·obtain⟨sl,q⟩:=slot c o (I.cne x c e) hc nch ho (I.freeC x c e)
   exact⟨_,q,hd⟩
  ·exact⟨o,keep c o (I.cne x c e) hc nch ho (I.freeC x c e),hd⟩
 refine⟨I.ok,I.os,hg,⟨fun b o e n hb hx=>?_,fun b o e n hb hx=>?_,fun b o e n hx=>?_,fun b o e hx=>?_,fun b xs e=>tups b xs (I.base.tups b xs e),fun b o xs e=>frzs b o xs (I.base.frzs b o xs e),fun b ps e=>?_⟩,?_,fun x c e=>?_,?_,fun x c e=>?_,fun p hp=>?_,hok,I.len⟩
 ·exact keep b o (neL b o e) hb (neC b o e hx) (I.base.keep b o e n hb hx) (I.base.free b o e n hx)
 ·obtain⟨sl,e1⟩:=I.base.slot b o e n hb hx
  obtain⟨sl',e2⟩:=slot b _ (neL b o e) hb (neC b o e hx) e1 (I.base.free b o e n hx)
  exact⟨sl',e2⟩
 ·obtain⟨o',e1⟩:=I.base.there b o e hx
  exact free b o' (neC b o e hx) e1 (I.base.free b o e n hx)
 ·obtain⟨o',e1⟩:=I.base.there b o e hx
  exact there b o' (neC b o e hx) e1
 ·obtain⟨m1,e1⟩:=I.base.tbls b ps e
  obtain⟨m2,e2⟩:=tbls b _ e1
  exact⟨m1++m2,by rw[e2,Array.append_assoc]⟩
 ·obtain⟨m,hn,hl⟩:=I.loc
  refine⟨m,ns m hn,fun i x v e1 e2 e3=>?_⟩
  obtain⟨u,r,l⟩:=hl i x v e1 e2 e3
  refine⟨u,r,?_⟩
  rcases l with l | ⟨k,c,e,z⟩
  ·exact .inl l
  ·exact .inr ⟨k,c,e,cellK x c e _ z⟩
 ·obtain⟨v,z⟩:=I.cell x c e
  exact⟨v,cellK x c e v z⟩
 ·obtain⟨m,⟨o,_,_,ho,_⟩,_⟩:=I.loc
  exact free _ o (fun z=>(hch _ z).2.1 rfl) ho I.free
 ·obtain⟨v,o,ho,hd⟩:=I.cell x c e
  exact free c o (fun z=>(hch c z).2.2.1 x c e rfl) ho (I.freeC x c e)
 ·obtain⟨e,n,ne,nf,d⟩:=I.pin p hp
  have nch:p.1∉ch:=fun z=>(hch p.1 z).2.2.2 p hp rfl
  exact⟨keep p.1 p.2 ne nf nch e n,free p.1 p.2 nch e n,ne,nf,d⟩
theorem Inv.un {t':Nat}(I:Inv X pins σ H s)(u:Un X.fs [] H H' s.heap h')(hok:HOk X.prog X.w H' h'):Inv X pins σ H' { s with heap:=h',toks:=t' }:=by
 obtain⟨m,⟨o,es,ep,ho,r⟩,_⟩:=id I.loc
 obtain⟨sl,hL⟩:=u.any ho I.free (by simp)
 exact I.step (g':=s.gens) (d':=s.drawn) (ch:=[]) (fun _ z=>nomatch z) (fun b o _ hb _ e n=>u.keep b o e n hb (by simp)) (fun b o _ hb _ e n=>u.slot b o e n hb (by simp)) (fun b o _ e n=>u.free b o e n (by simp)) (fun b o _ e=>u.there b o e (by simp)) u.tups u.frzs u.tbls (fun m' hm=>by
  obtain⟨o',es',ep',ho',r'⟩:=hm
  rw[ho]at ho';cases ho'
  exact⟨_,es',ep',hL,r'⟩) hok I.bare
theorem Inv.call {g':Array GenState}{t':Nat}{d':Drawn}{ch:List Addr}(I:Inv X pins σ H s)(u:Un (frs X.stack) ch H H' s.heap h')(hok:HOk X.prog X.w H' h')(hg:AllBare g')
  (hch:∀b∈ch,(b∈X.ex∨X.s₀.heap.objs.size≤b)∧b≠X.env.locals∧(∀x c,X.env.cells.lookup x=some c→c≠b)∧∀p∈X.pn++pins,p.1≠b):
  Inv X pins σ H' { s with heap:=h',gens:=g',drawn:=d',toks:=t' }:=by
 obtain⟨m,⟨o,es,ep,ho,r⟩,_⟩:=id I.loc
 obtain⟨sl,hL⟩:=u.any ho I.free fun z=>(hch _ z).2.1 rfl
 exact I.step (ch:=ch) hch (fun b o hL hb hc e n=>u.keep b o e n (fun z=>(List.mem_cons.mp (I.stkSub b z)).elim hL hb) hc) (fun b o _ _ hc e n=>u.any e n hc) (fun b o hc e n=>u.free b o e n hc) (fun b o hc e=>u.there b o e hc) u.tups u.frzs u.tbls (fun m' hm=>by
  obtain⟨o',es',ep',ho',r'⟩:=hm
  rw[ho]at ho';cases ho'
  exact⟨_,es',ep',hL,r'⟩) hok hg
theorem Inv.turned {t':Nat}{it:Addr}(I:Inv X pins σ H s)(k:∀b o,b≠it→s.heap.get? b=some o→h'.get? b=some o)(hn:H it=none)(hL:it≠X.env.locals)
  (h1:it∈X.ex∨X.s₀.heap.objs.size≤it) (h2:∀x c,X.env.cells.lookup x=some c→c≠it) (h3:∀p∈X.pn++pins,p.1≠it):Inv X pins σ H { s with heap:=h',toks:=t' }:=by
 have nit:∀b u,H b=some u→b≠it:=fun b u e z=>by rw[z,hn]at e;cases e
 refine I.step (g':=s.gens) (d':=s.drawn) (ch:=[it]) (fun b hb=>?_) (fun b o _ _ hc e _=>k b o (fun z=>hc (by simp[z])) e) (fun b o _ _ hc e _=>⟨o.slots,k b o (fun z=>hc (by simp[z])) e⟩) (fun _ _ _ _ n=>n)
  (fun b o hc e=>⟨o,k b o (fun z=>hc (by simp[z])) e⟩) (fun _ _ e=>e) (fun _ _ _ e=>e) (fun b ps e=>⟨#[],by rw[e];simp⟩) (fun m hm=>?_) (fun b u e=>?_) I.bare
 ·have e:b=it:=by simpa using hb
  subst e
  exact⟨h1,hL,h2,h3⟩
 ·obtain⟨o,es,ep,ho,r⟩:=hm
  exact⟨o,es,ep,k _ o (Ne.symm hL) ho,r⟩
 ·refine(I.hok b u e).stay (fun c v hc q=>k c v ?_ q) (fun _ q=>q) fun _ _ q=>q
  rcases hc with z | z
  ·rw[z];exact nit b u e
  ·exact nit c _ z
theorem Inv.tok (I:Inv X pins σ H s)(t:Nat):Inv X pins σ H { s with toks:=t }:=I.un (h':=s.heap) (t':=t) Un.refl I.hok
theorem Inv.kept {t':Nat}(I:Inv X pins σ H s)(k:∀b u,s.heap.get? b=some u→h'.get? b=some u):Inv X pins σ H { s with heap:=h',toks:=t' }:=I.un (Un.kept k) (I.hok.kept k)
theorem Inv.laid {a:Addr}{o:HO}{t':Nat}(I:Inv X pins σ H s)(k:∀b u,s.heap.get? b=some u→h'.get? b=some u)(hp:s.heap.objs.size≤a)(new:ObjOk X.prog X.w (upd H a o) h' a o):
  Inv X pins σ (upd H a o) { s with heap:=h',toks:=t' }:=I.un (Un.laid k hp (I.hok.fresh hp)) (I.hok.laid k hp new)
theorem Inv.write {x e:Addr}{o:HO}{t':Nat}(I:Inv X pins σ H s)(mu:Mut (H x))(he:e=x∨H e=some (.own x))(k:∀b u,b≠e→s.heap.get? b=some u→h'.get? b=some u)(heo:∃u,h'.get? e=some u)
  (new:ObjOk X.prog X.w (upd H x o) h' x o):Inv X pins σ (upd H x o) { s with heap:=h',toks:=t' }:=I.un (Un.write mu he k heo) (I.hok.write mu he k heo new)
theorem Inv.pins_of {pins':List (Addr×Obj)}(I:Inv X pins σ H s)(h:∀p∈pins',s.heap.get? p.1=some p.2∧H p.1=none∧p.1≠X.env.locals∧p.1∉X.fs∧∀v,p.2.data≠.cell v):Inv X pins' σ H s:=
 ⟨I.ok,I.os,I.bare,I.base,I.loc,I.cell,I.free,I.freeC,fun p hp=>(List.mem_append.mp hp).elim (fun z=>I.pin p (List.mem_append_left _ z)) (h p),I.hok,I.len⟩
theorem nodup_ix {N:List Str}(hN:N.Nodup){i j:Nat}{x:Str}(a:N[i]?=some x)(b:N[j]?=some x):i=j:=by
 obtain⟨h1,e1⟩:=List.getElem?_eq_some_iff.mp a
 obtain⟨h2,e2⟩:=List.getElem?_eq_some_iff.mp b
 exact(List.getElem_inj hN).mp (e1.trans e2.symm)
theorem store_ok2 {M:Model}{A:Around}{E:Value→Shared→Prop}{i:Nat}{x:Str}{v:V}{u:Value}{Q:Unit→Shared→Prop}(I:Inv X pins σ H s)(hN:X.N.Nodup)(hi:X.N[i]?=some x)(hx:Loc X.env.scope x)(r:RelV v u)
  (h:∀s',Inv X pins (σ.set i (some v)) H s'→(∃a,Heap.SameBut a s.heap s'.heap∧(a=X.env.locals∨X.env.cells.lookup x=some a))→Q () s') (hf:X.fn x=true∨X.env.scope.names.lookup x=some .local:=by first | exact .inl rfl | exact .inr rfl | assumption):wpAny M A (storeName X.env x u) Q E s:=by
 obtain⟨m,hn,hl⟩:=id I.loc
 have hcls:(X.env.scope.kind == .class || (X.env.scope.kind == .module&&X.env.locals != X.env.globals))=false:=by rw[I.ok.kind];rfl
 have hiσ:i<σ.length:=by rw[I.len];exact(List.getElem?_eq_some_iff.mp hi).1
 have cne:=I.cne
 have tracked:∀ {a:Addr} {h':Heap},(∃o,s.heap.get? a=some o∧H a=none)→Heap.SameBut a s.heap h'→HOk X.prog X.w H h':=fun {a h'} ha hs b ob e=>by
  obtain⟨_,_,hfree⟩:=ha
  refine(I.hok b ob e).stay (fun c w' hc q=>(hs.2 c ?_).trans q) (fun _ q=>q) fun _ _ q=>q
  rintro rfl
  rcases hc with rfl | hc
  ·rw[hfree]at e;cases e
  ·rw[hfree]at hc;cases hc
 rcases hx with hk | hk
 ·refine wpAny_storeName_local hk hn (fun h' hn' hs=>?_) hcls
  obtain⟨oL,_,_,hoL,_⟩:=id hn
  refine h _ ⟨I.ok,I.os,I.bare,⟨fun b o e n hb hx=>?_,fun b o e n hb hx=>?_,I.base.free,fun b o e hx=>?_,I.base.tups,I.base.frzs,I.base.tbls⟩,⟨_,hn',fun j y v' e1 e2 e3=>?_⟩,fun y c e=>?_,I.free,I.freeC,fun p hp=>?_,tracked ⟨oL,hoL,I.free⟩ hs,by simpa using I.len⟩ ⟨_,hs,.inl rfl⟩
  ·exact(hs.2 b (Nat.ne_of_lt (Nat.lt_of_lt_of_le (Heap.lt_size e) I.ok.above))).trans (I.base.keep b o e n hb hx)
  ·obtain⟨sl,e1⟩:=I.base.slot b o e n hb hx
   exact⟨sl,(hs.2 b (Nat.ne_of_lt (Nat.lt_of_lt_of_le (Heap.lt_size e) I.ok.above))).trans e1⟩
  ·obtain⟨o',e1⟩:=I.base.there b o e hx
   exact⟨o',(hs.2 b (Nat.ne_of_lt (Nat.lt_of_lt_of_le (Heap.lt_size e) I.ok.above))).trans e1⟩
  ·by_cases hj:j=i
   ·subst hj
    rw[hi]at e1;cases e1
    rw[List.getElem?_set_self hiσ]at e2
    cases e2
    exact⟨u,r,.inl ⟨hk,by simp⟩⟩
   ·rw[List.getElem?_set_ne (Ne.symm hj)]at e2
    obtain⟨u',r',q⟩:=hl j y v' e1 e2 e3
    refine⟨u',r',?_⟩
    rcases q with⟨k,e⟩|⟨k,c,e,z⟩
    ·refine .inl ⟨k,?_⟩
     have:y≠x:=fun e=>hj (nodup_ix hN e1 (e▸hi))
     simp[this,e]
    ·exact .inr ⟨k,c,e,z.sameBut hs (cne y c e)⟩
  ·obtain⟨w',z⟩:=I.cell y c e
   exact⟨w',z.sameBut hs (cne y c e)⟩
  ·obtain⟨e,n,ne,nf,d⟩:=I.pin p hp
   exact⟨(hs.2 p.1 ne).trans e,n,ne,nf,d⟩
 ·have hfn:X.fn x=true:=by
   rcases hf with z | z
   ·exact z
   ·rw[z]at hk;cases hk
  obtain⟨c,hc⟩:=I.ok.has x (.inl hk)
  obtain⟨w',z⟩:=I.cell x c hc
  refine wpAny_storeName_cell I.ok.kind hk hc z (fun h' hc' hs=>?_)
  obtain⟨oc,hoc,hocd⟩:=id z
  refine h { s with heap:=h' } ⟨I.ok,I.os,I.bare,⟨fun b o e n hb hx=>?_,fun b o e n hb hx=>?_,I.base.free,fun b o e hx=>?_,I.base.tups,I.base.frzs,I.base.tbls⟩,⟨m,hn.sameBut hs (Ne.symm (cne x c hc)),fun j y v' e1 e2 e3=>?_⟩,fun y c' e=>?_,I.free,I.freeC,fun p hp=>?_,tracked ⟨oc,hoc,I.freeC x c hc⟩ hs,by simpa using I.len⟩ ⟨c,hs,.inr hc⟩
  ·exact(hs.2 b (Nat.ne_of_lt (Nat.lt_of_lt_of_le (Heap.lt_size e) (I.ok.cab x c hfn hc)))).trans (I.base.keep b o e n hb hx)
  ·obtain⟨sl,e1⟩:=I.base.slot b o e n hb hx
   exact⟨sl,(hs.2 b (Nat.ne_of_lt (Nat.lt_of_lt_of_le (Heap.lt_size e) (I.ok.cab x c hfn hc)))).trans e1⟩
  ·obtain⟨o',e1⟩:=I.base.there b o e hx
   exact⟨o',(hs.2 b (Nat.ne_of_lt (Nat.lt_of_lt_of_le (Heap.lt_size e) (I.ok.cab x c hfn hc)))).trans e1⟩
  ·by_cases hj:j=i
   ·subst hj
    rw[hi]at e1;cases e1
    rw[List.getElem?_set_self hiσ]at e2
    cases e2
    exact⟨u,r,.inr ⟨.inl hk,c,hc,hc'⟩⟩
   ·rw[List.getElem?_set_ne (Ne.symm hj)]at e2
    obtain⟨u',r',q⟩:=hl j y v' e1 e2 e3
    refine⟨u',r',?_⟩
    rcases q with q | ⟨k,c',e,z'⟩
    ·exact .inl q
    ·refine .inr ⟨k,c',e,z'.sameBut hs ?_⟩
     rintro rfl
     exact hj (nodup_ix hN e1 (I.ok.inj _ _ _ e hc▸hi))
  ·by_cases hcc:c'=c
   ·subst hcc;exact⟨_,hc'⟩
   ·obtain⟨w2,z2⟩:=I.cell y c' e
    exact⟨w2,z2.sameBut hs hcc⟩
  ·obtain⟨e,n,ne,nf,d⟩:=I.pin p hp
   refine⟨(hs.2 p.1 ?_).trans e,n,ne,nf,d⟩
   intro q
   rw[q,hoc]at e
   have q':oc=p.2:=Option.some.inj e
   exact d w' (by rw[←q'];exact hocd)
theorem store_ok {M:Model}{A:Around}{E:Value→Shared→Prop}{i:Nat}{x:Str}{v:V}{u:Value}{Q:Unit→Shared→Prop}(I:Inv X pins σ H s)(hN:X.N.Nodup)(hi:X.N[i]?=some x)(hx:Loc X.env.scope x)(r:RelV v u)
  (h:∀s',Inv X pins (σ.set i (some v)) H s'→Q () s') (hf:X.fn x=true∨X.env.scope.names.lookup x=some .local:=by first | exact .inl rfl | exact .inr rfl | assumption):wpAny M A (storeName X.env x u) Q E s:=
 store_ok2 I hN hi hx r (fun s' I' _=>h s' I') hf
theorem Inv.call' {s':Shared}{ch:List Addr}(I:Inv X pins σ H s)(ho:s'.os=s.os)(u:Un (frs X.stack) ch H H' s.heap s'.heap)(hok:HOk X.prog X.w H' s'.heap)(hg:AllBare s'.gens)
  (hch:∀b∈ch,(b∈X.ex∨X.s₀.heap.objs.size≤b)∧b≠X.env.locals∧(∀x c,X.env.cells.lookup x=some c→c≠b)∧∀p∈X.pn++pins,p.1≠b):Inv X pins σ H' s':=by
 obtain⟨h',g',d',t',o'⟩:=s'
 have e:o'=s.os:=ho
 subst e
 exact I.call (g':=g') (t':=t') (d':=d') u hok hg hch
end
abbrev XK:=Value→Option Addr→Hp→Prop
abbrev St:=List (Option V)
abbrev VK:=V→Hp→Prop
abbrev TE:=St→Hp→VK→Prop
abbrev TT:=St→Hp→(Bool→Hp→Prop)→Prop
abbrev TA:=St→Hp→(List V→Hp→Prop)→Prop
structure Ends where
 nx:St→Hp→Prop
 rt:VK
 bk:St→Hp→Prop:=fun _ _=>False
 ct:St→Hp→Prop:=fun _ _=>False
abbrev TS:=Ends→St→Hp→Prop
def EP (X:Cx)(pins:List (Addr×Obj))(σ:St)(Q:VK)(u:Value)(s':Shared):Prop:=∃v H',Inv X pins σ H' s'∧RelV v u∧Q v H'
def TP (X:Cx)(pins:List (Addr×Obj))(σ:St)(Q:Bool→Hp→Prop)(b:Bool)(s':Shared):Prop:=∃H',Inv X pins σ H' s'∧Q b H'
def AP (X:Cx)(pins:List (Addr×Obj))(σ:St)(Q:List V→Hp→Prop)(us:List Value)(s':Shared):Prop:=∃vs H',Inv X pins σ H' s'∧Vals vs us∧Q vs H'
def SP (X:Cx)(pins:List (Addr×Obj))(D:Ends)(f:Flow)(s':Shared):Prop:=
 match f with
 | .next=>∃σ' H',Inv X pins σ' H' s'∧D.nx σ' H'
 | .brk=>∃σ' H',Inv X pins σ' H' s'∧D.bk σ' H'
 | .cont=>∃σ' H',Inv X pins σ' H' s'∧D.ct σ' H'
 | .ret u=>∃v σ' H',Inv X pins σ' H' s'∧RelV v u∧D.rt v H'
def PE (X:Cx)(e:Expr)(t:TE):Prop:=
 ∀(pins:List (Addr×Obj)) (s:Shared) (σ:St) (H:Hp) (Q:VK),Inv X pins σ H s→t σ H Q→wpAny (model X.prog X.w) X.A (eval e X.env) (EP X pins σ Q) X.xe s
def PT (X:Cx)(e:Expr)(t:TT):Prop:=
 ∀(pins:List (Addr×Obj)) (s:Shared) (σ:St) (H:Hp) (Q:Bool→Hp→Prop),Inv X pins σ H s→t σ H Q→wpAny (model X.prog X.w) X.A (isTrue e X.env (eval e X.env)) (TP X pins σ Q) X.xe s
def PW (X:Cx)(e:Expr)(t:TT):Prop:=
 ∀(whole:Sem Value) (pins:List (Addr×Obj)) (s:Shared) (σ:St) (H:Hp) (Q:Bool→Hp→Prop),Inv X pins σ H s→t σ H Q→wpAny (model X.prog X.w) X.A (isTrue e X.env whole) (TP X pins σ Q) X.xe s
theorem PW.pt {X:Cx}{e:Expr}{t:TT}(h:PW X e t):PT X e t:=h _
def PA (X:Cx)(es:List Expr)(t:TA):Prop:=
 ∀(pos:Pos) (pins:List (Addr×Obj)) (s:Shared) (σ:St) (H:Hp) (Q:List V→Hp→Prop),Inv X pins σ H s→t σ H Q→wpAny (model X.prog X.w) X.A (spliced (backTo pos (starEach es X.env))) (AP X pins σ Q) X.xe s
def PS (X:Cx)(st:Stmt)(t:TS):Prop:=
 ∀(pins:List (Addr×Obj)) (s:Shared) (σ:St) (H:Hp) (D:Ends),Inv X pins σ H s→t D σ H→wpAny (model X.prog X.w) X.A (exec st X.env) (SP X pins D) X.xe s
def PSs (X:Cx)(st:List Stmt)(t:TS):Prop:=
 ∀(pins:List (Addr×Obj)) (s:Shared) (σ:St) (H:Hp) (D:Ends),Inv X pins σ H s→t D σ H→wpAny (model X.prog X.w) X.A (execs st X.env) (SP X pins D) X.xe s
theorem thn {α:Type}{t:Sem α}{Q Q':α→Shared→Prop}{M:Model}{A:Around}{E:Value→Shared→Prop}{s:Shared}(h:wpAny M A t Q E s)(hQ:∀a s,Q a s→Q' a s):wpAny M A t Q' E s:=wpAny_mono h hQ fun _ _ x=>x
section
variable {X:Cx}
theorem bin {a b:Expr}{ta tb:TE}(ha:PE X a ta)(hb:PE X b tb){pins:List (Addr×Obj)}{s:Shared}{σ:St}{H:Hp}{R:V→V→Hp→Prop}(I:Inv X pins σ H s)(h:ta σ H fun x H1=>tb σ H1 fun y H2=>R x y H2)
  {α:Type} {Q:α→Shared→Prop} {f:Value→Value→Sem α}
  (hf:∀v u s2 x y H2,Inv X pins σ H2 s2→RelV x v→RelV y u→R x y H2→wpAny (model X.prog X.w) X.A (f v u) Q X.xe s2):
  wpAny (model X.prog X.w) X.A (eval a X.env) (fun v s₁=>wpAny (model X.prog X.w) X.A (eval b X.env) (fun u s₂=>wpAny (model X.prog X.w) X.A (f v u) Q X.xe s₂) X.xe s₁) X.xe s:=by
 refine thn (ha pins s σ H _ I h) fun v s1 ⟨x,H1,I1,r1,q1⟩=>?_
 refine thn (hb pins s1 σ H1 _ I1 q1) fun u s2 ⟨y,H2,I2,r2,q2⟩=>?_
 exact hf v u s2 x y H2 I2 r1 r2 q2
def tVar (i:Nat):TE:=fun σ H Q=>∃v,σ[i]?=some (some v)∧Q v H
def tC (v:V):TE:=fun _ H Q=>Q v H
theorem pe_var {i:Nat} {x:Str} {pos:Pos} (hN:X.N[i]?=some x) (hv:Vis X.env.scope x) (hd:(x == ("__debug__":Str))=false:=by decide) (hcd:(x == ("__classdict__":Str))=false:=by decide):PE X (.Name x pos) (tVar i):=by
 intro pins s σ H Q I h
 obtain⟨v,e,h⟩:=h
 obtain⟨m,hn,hl⟩:=I.loc
 obtain⟨u,r,l⟩:=hl i x v hN e hv
 have fin:EP X pins σ Q u s:=⟨v,H,I,r,h⟩
 rcases l with⟨hk,hm⟩|⟨hk,c,hc,hcell⟩
 ·exact wpAny_Name (wpAny_loadName_local I.ok.kind hk hn hm fin) hd
 ·rcases hk with hk | hk
  ·exact wpAny_Name (wpAny_loadName_cell I.ok.kind hk hc hcell fin) hd
  ·exact wpAny_Name (wpAny_loadName_free I.ok.kind hk hc hcell fin hcd) hd
theorem pe_int {i j pos}:PE X (.Constant (.int i) j pos) (tC (.int i)):=fun _ _ _ H _ I h=>wpAny_Constant_int ⟨.int i,H,I.tok _,⟨_,rfl⟩,h⟩
theorem pe_bl {b j pos}:PE X (.Constant (.bool b) j pos) (tC (.bl b)):=fun _ _ _ H _ I h=>Constant_bool ⟨.bl b,H,I,rfl,h⟩
theorem pe_non {j pos}:PE X (.Constant .none j pos) (tC .non):=fun _ _ _ H _ I h=>Constant_none ⟨.non,H,I,rfl,h⟩
theorem pe_str {x j pos}:PE X (.Constant (.str x) j pos) (tC (.str x)):=fun _ _ _ H _ I h=>Calls.Constant_str ⟨.str x,H,I.tok _,⟨_,rfl⟩,h⟩
def Gl (X:Cx)(x:Str):Prop:=X.env.kindOf x=some .globalImplicit
theorem ld_glob {E:Value→Shared→Prop}{pins:List (Addr×Obj)}{s:Shared}{σ:St}{H:Hp}{x:Str}{u:Value}{pos:Pos}{Q:Value→Shared→Prop}(I:Inv X pins σ H s)(hg:Gl X x)(hm:X.mg x=some u)(h:Q u s)
  (hd:(x == ("__debug__":Str))=false:=by decide):wpAny (model X.prog X.w) X.A (eval (.Name x pos) X.env) Q E s:=
 Calls.Name_function_global I.ok.kind hg (Calls.loadGlobal_global (by rw[I.ok.glob];exact I.mod.glob.keeps I.bk) hm h) hd
theorem ld_blt {E:Value→Shared→Prop}{pins:List (Addr×Obj)}{s:Shared}{σ:St}{H:Hp}{x:Str}{u:Value}{pos:Pos}{Q:Value→Shared→Prop}(I:Inv X pins σ H s)(hg:Gl X x)(hm:X.mg x=none)(hv:bootBuiltins x=some u)(h:Q u s)
  (hn:x≠"__name__":=by decide) (hd:(x == ("__debug__":Str))=false:=by decide):wpAny (model X.prog X.w) X.A (eval (.Name x pos) X.env) Q E s:=by
 obtain⟨mb,h1,h2⟩:=I.mod.blt
 exact Calls.Name_function_global I.ok.kind hg (Calls.loadGlobal_builtin (by rw[I.ok.glob];exact I.mod.glob.keeps I.bk) hm (by rw[I.ok.blt];exact h1.keeps I.bk) ((h2 x hn).trans hv) h) hd
theorem pe_glob {x:Str} {v:V} {u:Value} {pos:Pos} (hg:Gl X x) (hm:X.mg x=some u) (r:RelV v u) (hd:(x == ("__debug__":Str))=false:=by decide):PE X (.Name x pos) (tC v):=
 fun _ _ _ H _ I h=>ld_glob I hg hm ⟨v,H,I,r,h⟩ hd
theorem pe_bltn {x:Str} {v:V} {u:Value} {pos:Pos} (hg:Gl X x) (hm:X.mg x=none) (hv:bootBuiltins x=some u) (r:RelV v u) (hn:x≠"__name__":=by decide) (hd:(x == ("__debug__":Str))=false:=by decide):PE X (.Name x pos) (tC v):=
 fun _ _ _ H _ I h=>ld_blt I hg hm hv ⟨v,H,I,r,h⟩ hn hd
variable {a b:Expr}{ta tb:TE}{pos:Pos}
def PC (X:Cx)(op:CmpOp)(a b:Expr)(t:TE):Prop:=
 ∀(pins:List (Addr×Obj)) (s:Shared) (σ:St) (H:Hp) (Q:VK),Inv X pins σ H s→t σ H Q →
  wpAny (model X.prog X.w) X.A (eval a X.env) (fun v s₁=>wpAny (model X.prog X.w) X.A (eval b X.env) (fun u s₂=>wpAny (model X.prog X.w) X.A (compareOp op v u) (EP X pins σ Q) X.xe s₂) X.xe s₁) X.xe s
theorem nobehind (b:Expr){op:CmpOp}(h:op≠.In)(h2:op≠.NotIn):behindInMarks op b=false:=by
 have e1:(op == CmpOp.In)=false:=by cases op<;>first | rfl | exact absurd rfl h
 have e2:(op == CmpOp.NotIn)=false:=by cases op<;>first | rfl | exact absurd rfl h2
 cases b<;>simp[behindInMarks,e1,e2]
def tB (t:TE):TT:=fun σ H Q=>t σ H fun x H1=>∃c,x=.bl c∧Q c H1
theorem pt_cmp {op:CmpOp}{t:TE}(h:PC X op a b t)(h1:behindInMarks op b=false:=by first | exact nobehind _ (by decide) (by decide) | rfl):PT X (.Compare a [op] [b] pos) (tB t):=by
 intro pins s σ H Q I hw
 refine wpAny_isTrue_Compare1 (thn (h pins s σ H _ I hw) fun v s1 h1=>thn h1 fun u s2 h2=>thn h2 fun c s3 ⟨x,H1,I1,r1,q1⟩=>?_) h1
 obtain⟨d,rfl,q⟩:=q1
 cases r1
 exact wpAny_truthy_bool ⟨H1,I1,q⟩
theorem pt_val {e:Expr}{t:TE}(h:PE X e t)(he:∀whole,isTrue e X.env whole=(do let v ←whole;standAt e.pos;holding [v] (truthy v)):=by intro _;rfl):PT X e (tB t):=by
 intro pins s σ H Q I hw
 refine isTrue_plain (thn (h pins s σ H _ I hw) fun v s1 ⟨x,H1,I1,r1,q1⟩=>?_) (he _)
 obtain⟨d,rfl,q⟩:=q1
 cases r1
 exact wpAny_truthy_bool ⟨H1,I1,q⟩
variable {tA tB':TT}{rest:List Expr}
def tAnd (t u:TT):TT:=fun σ H Q=>t σ H fun c H1=>if c=true then u σ H1 Q else Q false H1
def tOr (t u:TT):TT:=fun σ H Q=>t σ H fun c H1=>if c=true then Q true H1 else u σ H1 Q
def tNot (t:TT):TT:=fun σ H Q=>t σ H fun c H1=>Q (!c) H1
theorem pw_and1 (ha:PT X a tA):PW X (.BoolOp .And [a] pos) tA:=by
 intro wh pins s σ H Q I h
 refine isTrue_and (thn (ha pins s σ H Q I h) fun c s1 e=>?_)
 cases c with
 | true=>exact isTrue_and_nil e
 | false=>exact e
theorem pw_or1 (ha:PT X a tA):PW X (.BoolOp .Or [a] pos) tA:=by
 intro wh pins s σ H Q I h
 refine isTrue_or (thn (ha pins s σ H Q I h) fun c s1 e=>?_)
 cases c with
 | false=>exact isTrue_or_nil e
 | true=>exact e
theorem pw_and (ha:PT X a tA)(hb:PW X (.BoolOp .And (b::rest) pos) tB'):PW X (.BoolOp .And (a::b::rest) pos) (tAnd tA tB'):=by
 intro wh pins s σ H Q I h
 refine isTrue_and (thn (ha pins s σ H _ I h) fun c s1 ⟨H1,I1,q1⟩=>?_)
 cases c with
 | true=>exact hb wh pins s1 σ H1 Q I1 q1
 | false=>exact⟨H1,I1,q1⟩
theorem pw_or (ha:PT X a tA)(hb:PW X (.BoolOp .Or (b::rest) pos) tB'):PW X (.BoolOp .Or (a::b::rest) pos) (tOr tA tB'):=by
 intro wh pins s σ H Q I h
 refine isTrue_or (thn (ha pins s σ H _ I h) fun c s1 ⟨H1,I1,q1⟩=>?_)
 cases c with
 | true=>exact⟨H1,I1,q1⟩
 | false=>exact hb wh pins s1 σ H1 Q I1 q1
theorem pt_not (ha:PT X a tA):PT X (.UnaryOp .Not a pos) (tNot tA):=by
 intro pins s σ H Q I h
 exact isTrue_not (ha pins s σ H (fun c H1=>Q (!c) H1) I h)
def tAndV (ta tb:TE):TE:=fun σ H Q=>ta σ H fun x H1=>∃c,x=.bl c∧if c=true then tb σ H1 Q else Q (.bl false) H1
def tOrV (ta tb:TE):TE:=fun σ H Q=>ta σ H fun x H1=>∃c,x=.bl c∧if c=true then Q (.bl true) H1 else tb σ H1 Q
def tNotV (ta:TE):TE:=fun σ H Q=>ta σ H fun x H1=>∃c,x=.bl c∧Q (.bl (!c)) H1
theorem pe_one {op}{t:TE}(h:PE X a t):PE X (.BoolOp op [a] pos) t:=fun pins s σ H Q I hw=>BoolOp_one (h pins s σ H Q I hw)
theorem pe_and (ha:PE X a ta)(hb:PE X (.BoolOp .And (b::rest) pos) tb):PE X (.BoolOp .And (a::b::rest) pos) (tAndV ta tb):=by
 intro pins s σ H Q I h
 refine BoolOp_and (thn (ha pins s σ H _ I h) fun v s1 ⟨x,H1,I1,r1,q1⟩=>?_)
 obtain⟨c,rfl,q1⟩:=q1
 cases r1
 refine wpAny_truthy_bool ?_
 cases c with
 | true=>exact hb pins s1 σ H1 Q I1 q1
 | false=>exact⟨.bl false,H1,I1,rfl,q1⟩
theorem pe_not (ha:PE X a ta):PE X (.UnaryOp .Not a pos) (tNotV ta):=by
 intro pins s σ H Q I h
 refine UnaryOp_ (thn (ha pins s σ H _ I h) fun v s1 ⟨x,H1,I1,r1,q1⟩=>?_)
 obtain⟨c,rfl,q1⟩:=q1
 cases r1
 exact not_of (wpAny_truthy_bool ⟨.bl (!c),H1,I1,rfl,q1⟩)
def tIf (t:TT)(ta tb:TE):TE:=fun σ H Q=>t σ H fun c H1=>if c=true then ta σ H1 Q else tb σ H1 Q
end
def SqL (K:PySem.W.Frag)(H:Hp)(a:Addr)(xs:List V):Prop:=
 Rd H a (.lst xs) ∨
  ∃(o:Obj) (its:Array Value) (n:Nat),K.lookup a=some o∧o.cls=.type "list"∧o.dict=none∧o.data=.seq its n∧its.size≤sizeLine∧Vals xs its.toList
def SqT (K:PySem.W.Frag)(H:Hp)(a:Addr)(xs:List V):Prop:=
 Rd H a (.tup xs) ∨
  ∃(o:Obj) (its:Array Value) (n:Nat),K.lookup a=some o∧o.cls=.type "tuple"∧o.data=.seq its n∧its.size≤sizeLine∧Vals xs its.toList
def absV:Value→Option V
 | .none=>some .non
 | .bool b=>some (.bl b)
 | .int i _=>some (.int i)
 | .str x _=>some (.str x)
 | .bytes b _=>some (.byt b)
 | .float b _=>some (.flt b)
 | .ref a=>some (.ref a)
 | .type n=>some (.ty n)
 | _=>none
theorem RelV.abs {x:V}{u:Value}(r:RelV x u):absV u=some x:=by
 cases x with
 | non=>cases r;rfl
 | bl _=>cases r;rfl
 | int _=>obtain⟨t,rfl⟩:=r;rfl
 | str _=>obtain⟨t,rfl⟩:=r;rfl
 | byt _=>obtain⟨t,rfl⟩:=r;rfl
 | flt _=>obtain⟨t,rfl⟩:=r;rfl
 | ref _=>cases r;rfl
 | ty _=>cases r;rfl
theorem RelV.inj {x y:V}{u:Value}(r:RelV x u)(q:RelV y u):x=y:=Option.some.inj (r.abs.symm.trans q.abs)
theorem Vals.inj:∀ {xs ys:List V} {us:List Value},Vals xs us→Vals ys us→xs=ys
 | _,_,_,.nil,.nil=>rfl
 | _,_,_,.cons r t,.cons r' t'=>by rw[r.inj r',Vals.inj t t']
section
variable {X:Cx}{pins:List (Addr×Obj)}{σ:St}{H:Hp}{s:Shared}{a:Addr}{xs ys:List V}
theorem Inv.list (I:Inv X pins σ H s)(h:SqL X.K H a xs):∃its:List Value,Vals xs its∧PlainL s.heap a its.toArray∧xs.length≤sizeLine:=by
 rcases h with h | ⟨o,its,n,hk,hc,hd,hs,hz,r⟩
 ·obtain⟨z,its,n,r,e⟩:=h.ok I.hok
  exact⟨its,r,⟨_,n,e,rfl,rfl,rfl⟩,z⟩
 ·refine⟨its.toList,r,⟨o,n,I.kIn a o hk,hc,hd,by simpa using hs⟩,?_⟩
  have e:=r.length
  simp only[Array.length_toList]at e
  omega
theorem Inv.tuple (I:Inv X pins σ H s)(h:SqT X.K H a xs):∃its:List Value,Vals xs its∧IsTup s.heap a its.toArray∧xs.length≤sizeLine:=by
 rcases h with h | ⟨o,its,n,hk,hc,hs,hz,r⟩
 ·obtain⟨z,its,r,p⟩:=h.ok I.hok
  exact⟨its,r,p,z⟩
 ·refine⟨its.toList,r,⟨o,I.kIn a o hk,hc,n,by simpa using hs⟩,?_⟩
  have e:=r.length
  simp only[Array.length_toList]at e
  omega
theorem Inv.list_inj (I:Inv X pins σ H s)(h:SqL X.K H a xs)(h':SqL X.K H a ys):xs=ys:=by
 obtain⟨its,r,⟨o,n,e,_,_,d⟩,_⟩:=I.list h
 obtain⟨its',r',⟨o',n',e',_,_,d'⟩,_⟩:=I.list h'
 rw[e]at e';cases e'
 rw[d]at d'
 injection d' with d1 _
 have:its=its':=by simpa using congrArg Array.toList d1
 subst this
 exact r.inj r'
theorem Inv.tuple_inj (I:Inv X pins σ H s)(h:SqT X.K H a xs)(h':SqT X.K H a ys):xs=ys:=by
 obtain⟨its,r,⟨o,e,_,n,d⟩,_⟩:=I.tuple h
 obtain⟨its',r',⟨o',e',_,n',d'⟩,_⟩:=I.tuple h'
 rw[e]at e';cases e'
 rw[d]at d'
 injection d' with d1 _
 have:its=its':=by simpa using congrArg Array.toList d1
 subst this
 exact r.inj r'
end
abbrev Cx.wish (X:Cx)(E:Value→Shared→Prop):Cx:={ X with xe:=E }
abbrev Cx.nox (X:Cx):Cx:=X.wish fun _ _=>False
theorem Cx.Ok.wish {X:Cx}(ok:X.Ok)(E:Value→Shared→Prop):(X.wish E).Ok:=
 ⟨ok.mod,ok.kind,ok.glob,ok.blt,ok.above,ok.inj,ok.has,ok.cab,ok.hd,ok.frames,ok.stk,ok.exf,ok.bs,ok.bsz,ok.noex,ok.exfs,ok.funs,ok.frf⟩
theorem Cx.Ok.unwish {X:Cx}{E:Value→Shared→Prop}(ok:(X.wish E).Ok):X.Ok:=
 ⟨ok.mod,ok.kind,ok.glob,ok.blt,ok.above,ok.inj,ok.has,ok.cab,ok.hd,ok.frames,ok.stk,ok.exf,ok.bs,ok.bsz,ok.noex,ok.exfs,ok.funs,ok.frf⟩
section
variable {X:Cx}{pins:List (Addr×Obj)}{σ:St}{H:Hp}{s:Shared}{E:Value→Shared→Prop}
theorem Inv.wish (I:Inv X pins σ H s)(E:Value→Shared→Prop):Inv (X.wish E) pins σ H s:=⟨I.ok.wish E,I.os,I.bare,I.base,I.loc,I.cell,I.free,I.freeC,I.pin,I.hok,I.len⟩
theorem Inv.unwish (I:Inv (X.wish E) pins σ H s):Inv X pins σ H s:=⟨I.ok.unwish,I.os,I.bare,I.base,I.loc,I.cell,I.free,I.freeC,I.pin,I.hok,I.len⟩
theorem SP.unwish {D:Ends}{f:Flow}{s':Shared}(h:SP (X.wish E) pins D f s'):SP X pins D f s':=by
 cases f with
 | next=>obtain⟨σ',H',I,q⟩:=h;exact⟨σ',H',I.unwish,q⟩
 | brk=>obtain⟨σ',H',I,q⟩:=h;exact⟨σ',H',I.unwish,q⟩
 | cont=>obtain⟨σ',H',I,q⟩:=h;exact⟨σ',H',I.unwish,q⟩
 | ret u=>obtain⟨v,σ',H',I,r,q⟩:=h;exact⟨v,σ',H',I.unwish,r,q⟩
theorem PSs.nox {st:List Stmt}{t:TS}(h:PSs X.nox st t):PSs X st t:=fun pins s σ H D I hw=>
 wpAny_mono (h pins s σ H D (I.wish _) hw) (fun _ _ q=>q.unwish) fun _ _ z=>False.elim z
end
section
variable {X:Cx}{st:Stmt}{rest:List Stmt}{t u:TS}{e:Expr}{te:TE}{pos:Pos}
def tNext:TS:=fun D σ H=>D.nx σ H
def tSeq (t u:TS):TS:=fun D σ H=>t { D with nx:=u D } σ H
theorem pss_nil:PSs X [] tNext:=fun _ _ σ H _ I h=>wpAny_execs_nil ⟨σ,H,I,h⟩
theorem pss_cons (h1:PS X st t)(h2:PSs X rest u):PSs X (st::rest) (tSeq t u):=by
 intro pins s σ H D I h
 refine wpAny_execs_cons (thn (h1 pins s σ H { D with nx:=u D } I h) fun f s1 q=>?_)
 cases f with
 | next=>
  obtain⟨σ',H',I',q⟩:=q
  exact h2 pins s1 σ' H' D I' q
 | ret v=>exact q
 | brk=>exact q
 | cont=>exact q
theorem pss_one (h1:PS X st t):PSs X [st] t:=by
 intro pins s σ H D I h
 refine wpAny_execs_cons (thn (h1 pins s σ H D I h) fun f s1 q=>?_)
 cases f with
 | next=>exact wpAny_execs_nil q
 | ret v=>exact q
 | brk=>exact q
 | cont=>exact q
theorem Inv.quiet {pins:List (Addr×Obj)}{σ:St}{H:Hp}{s:Shared}(I:Inv X pins σ H s):interactive X.env=false:=by simp[interactive,I.ok.kind]
def tDrop (te:TE):TS:=fun D σ H=>te σ H fun _ H1=>D.nx σ H1
theorem ps_expr (he:PE X e te)(hs:swapsWith e none pos.line X.env=pure false:=by rfl):PS X (.Expr e pos) (tDrop te):=by
 intro pins s σ H D I h
 exact wpAny_Expr_any (thn (he pins s σ H _ I h) fun v s1 ⟨x,H1,I1,r1,q1⟩=>⟨σ,H1,I1,q1⟩) I.quiet hs
def tRet (te:TE):TS:=fun D σ H=>te σ H D.rt
theorem ps_ret (he:PE X e te):PS X (.Return (some e) pos) (tRet te):=by
 intro pins s σ H D I h
 exact wpAny_Return_some (thn (he pins s σ H _ I h) fun v s1 ⟨x,H1,I1,r1,q1⟩=>⟨x,σ,H1,I1,r1,q1⟩)
def tRetN:TS:=fun D _ H=>D.rt .non H
def tIfS (c:TT)(t u:TS):TS:=fun D σ H=>c σ H fun b H1=>if b=true then t D σ H1 else u D σ H1
theorem ps_if {c:Expr}{a b:List Stmt}{tc:TT}(hc:PT X c tc)(ha:PSs X a t)(hb:PSs X b u):PS X (.If c a b pos) (tIfS tc t u):=by
 intro pins s σ H D I h
 refine wpAny_If (thn (hc pins s σ H _ I h) fun d s1 ⟨H1,I1,q1⟩=>?_)
 cases d with
 | true=>exact ha pins s1 σ H1 D I1 q1
 | false=>exact hb pins s1 σ H1 D I1 q1
end
abbrev TG:=V→St→Hp→(St→Hp→Prop)→Prop
abbrev TGs:=List V→St→Hp→(St→Hp→Prop)→Prop
def PG (X:Cx)(target:Expr)(t:TG):Prop:=
 ∀(pins:List (Addr×Obj)) (s:Shared) (σ:St) (H:Hp) (v:V) (u:Value) (Q:St→Hp→Prop),Inv X pins σ H s→RelV v u→t v σ H Q →
  wpAny (model X.prog X.w) X.A (assign target X.env u) (fun _ s'=>∃σ' H',Inv X pins σ' H' s'∧Q σ' H') X.xe s
def PGs (X:Cx)(ts:List Expr)(t:TGs):Prop:=
 ∀(pins:List (Addr×Obj)) (s:Shared) (σ:St) (H:Hp) (vs:List V) (us:List Value) (Q:St→Hp→Prop),Inv X pins σ H s→Vals vs us→t vs σ H Q →
  wpAny (model X.prog X.w) X.A (assignInOrder ((assignEach ts X.env).map (·.2)) us) (fun _ s'=>∃σ' H',Inv X pins σ' H' s'∧Q σ' H') X.xe s
abbrev TIp:=V→V→Hp→VK→Prop
section
variable {X:Cx}{pos:Pos}
def gName (i:Nat):TG:=fun v σ H Q=>Q (σ.set i (some v)) H
theorem pg_name {i:Nat}{x:Str}(hN:X.N.Nodup)(hi:X.N[i]?=some x)(hx:Loc X.env.scope x)(hf:X.fn x=true∨X.env.scope.names.lookup x=some .local:=by first | exact .inl rfl | exact .inr rfl | assumption):PG X (.Name x pos) (gName i):=by
 intro pins s σ H v u Q I r h
 exact wpAny_assign_Name (store_ok I hN hi hx r (fun s' I'=>⟨_,H,I',h⟩) hf)
def gNil:TGs:=fun vs σ H Q=>vs=[]∧Q σ H
def gCons (t:TG)(u:TGs):TGs:=fun vs σ H Q=>∃v r,vs=v::r∧t v σ H fun σ' H'=>u r σ' H' Q
theorem pgs_nil:PGs X [] gNil:=by
 intro pins s σ H vs us Q I r h
 obtain⟨e,h⟩:=h
 subst e
 cases r
 exact assignInOrder_nil ⟨σ,H,I,h⟩
theorem pgs_cons {e:Expr}{es:List Expr}{t:TG}{u:TGs}(h1:PG X e t)(h2:PGs X es u)
  (hs:(assignEach (e::es) X.env).map (·.2)=assign e X.env::(assignEach es X.env).map (·.2):=by rfl):PGs X (e::es) (gCons t u):=by
 intro pins s σ H vs us Q I r h
 obtain⟨v,vr,e1,h⟩:=h
 subst e1
 cases r with
 | cons r rr=>
  rw[hs]
  refine assignInOrder_cons (thn (h1 pins s σ H _ _ _ I r h) fun _ s1 ⟨σ1,H1,I1,q1⟩=>?_)
  exact h2 pins s1 σ1 H1 _ _ Q I1 rr q1
def gTup (K:PySem.W.Frag)(n:Nat)(t:TGs):TG:=fun v σ H Q=>∃a xs,v=.ref a∧SqT K H a xs∧xs.length=n∧t xs σ H Q
theorem pg_tup {es:List Expr}{k:Nat}{t:TGs}{n:Nat}(hc:X.calm=true)(h:PGs X es t)
  (hn:(assignEach es X.env).length=n:=by rfl) (hst:(assignEach es X.env).findIdx? (·.1)=none:=by rfl):PG X (.Tuple es k pos) (gTup X.K n t):=by
 intro pins s σ H v u Q I r hw
 obtain⟨a,xs,e1,hq,hl,hw⟩:=hw
 subst e1
 cases r
 obtain⟨its,rv,ht,hz⟩:=I.tuple hq
 refine assign_Tuple_tuple (I.ok.hd hc) ht (by simp[hn,←hl,rv.length]) hst fun h' hx=>?_
 have I1:Inv X pins σ H { s with heap:=h' }:=I.kept (t':=s.toks) fun b o e=>hx b o (Nat.ne_of_lt (Heap.lt_size e)) e
 exact h pins _ σ H xs _ Q I1 (by simpa using rv) hw
def tAsg (te:TE)(g:TG):TS:=fun D σ H=>te σ H fun x H1=>g x σ H1 D.nx
theorem ps_set {i:Nat}{x:Str}{e:Expr}{te:TE}{pos':Pos}(hN:X.N.Nodup)(hi:X.N[i]?=some x)(hx:Loc X.env.scope x)(he:PE X e te)(hs:swapsWith e (some (.Name x pos')) pos.line X.env=pure false:=by rfl)(hf:X.fn x=true∨X.env.scope.names.lookup x=some .local:=by first | exact .inl rfl | exact .inr rfl | assumption):
  PS X (.Assign [.Name x pos'] e pos) (tAsg te (gName i)):=by
 intro pins s σ H D I h
 refine wpAny_Assign_Name (thn (he pins s σ H _ I h) fun v s1 ⟨y,H1,I1,r1,q1⟩=>?_) hs
 exact store_ok I1 hN hi hx r1 (fun s2 I2=>⟨_,H1,I2,q1⟩) hf
def tPar (i j:Nat)(ta:TA):TS:=fun D σ H=>ta σ H fun vs H1=>∃v w,vs=[v,w]∧D.nx ((σ.set i (some v)).set j (some w)) H1
def tAug (i:Nat)(te:TE)(ti:TIp):TS:=fun D σ H=>∃x,σ[i]?=some (some x)∧te σ H fun y H1=>ti x y H1 fun z H2=>D.nx (σ.set i (some z)) H2
end
section
variable {X:Cx}{pos:Pos}
def tWhile (c:TT)(tb:TS):TS:=fun D σ H=>∃W:Nat→St→Hp→Prop,(∃m,W m σ H)∧∀m σ H,W m σ H →
 c σ H fun b H1=>if b=true then ∃N:St→Hp→Prop,(∀σ' H',N σ' H'→∃m',m'<m∧W m' σ' H')∧tb { D with nx:=N,ct:=N,bk:=D.nx } σ H1 else D.nx σ H1
theorem ps_while {c:Expr}{body:List Stmt}{tc:TT}{tb:TS}(hp:PassesOwn (model X.prog X.w) X.A X.env X.xe)(hc:PT X c tc)(hb:PSs X body tb):PS X (.While c body [] pos) (tWhile tc tb):=by
 intro pins s σ H D I h
 obtain⟨W,⟨m0,w0⟩,turn⟩:=h
 refine wpAny_While (codeAny_whileLoop (fun n s'=>∃σ' H',Inv X pins σ' H' s'∧W n σ' H') ?_ m0 ⟨σ,H,I,w0⟩)
 rintro n s1 ⟨σ1,H1,I1,w1⟩
 refine wpAny_passesOwn hp (thn (hc pins s1 σ1 H1 _ I1 (turn n σ1 H1 w1)) fun b s2 ⟨H2,I2,q2⟩=>?_)
 cases b with
 | true=>
  obtain⟨N,hN,q2⟩:=q2
  rw[if_pos rfl]
  refine wpAny_passesOwn hp (thn (hb pins s2 σ1 H2 _ I2 q2) fun f s3 q3=>?_)
  cases f with
  | next=>
   obtain⟨σ3,H3,I3,n3⟩:=q3
   obtain⟨m',hm,w3⟩:=hN σ3 H3 n3
   exact⟨m',hm,σ3,H3,I3,w3⟩
  | cont=>
   obtain⟨σ3,H3,I3,n3⟩:=q3
   obtain⟨m',hm,w3⟩:=hN σ3 H3 n3
   exact⟨m',hm,σ3,H3,I3,w3⟩
  | brk=>exact q3
  | ret v=>exact q3
 | false=>
  rw[if_neg Bool.false_ne_true]
  exact wpAny_execs_nil ⟨σ1,H2,I2,q2⟩
end
structure It where
 go:Nat→Hp→Prop
 yld:Nat→Hp→V→Hp→Prop
 stop:Nat→Hp→Prop
def FpOk (X:Cx)(pins:List (Addr×Obj))(H:Hp)(b:Addr):Prop:=
 H b=none∧b≠X.env.locals∧b∉X.fs∧(b∈X.ex∨X.s₀.heap.objs.size≤b)∧(∀x c,X.env.cells.lookup x=some c→c≠b)∧∀p∈X.pn++pins,p.1≠b
theorem Inv.fpOk {X:Cx}{pins:List (Addr×Obj)}{σ:St}{H H':Hp}{s:Shared}{b:Addr}(I:Inv X pins σ H s)(hb:s.heap.objs.size≤b)(hn:H' b=none):FpOk X pins H' b:=by
 refine⟨hn,Nat.ne_of_gt (Nat.lt_of_lt_of_le I.lt hb),I.nofs hb,.inr (Nat.le_trans I.sz hb),fun x c e z=>?_,fun p hp z=>?_⟩
 ·obtain⟨v,q⟩:=I.cell x c e
  exact absurd (Nat.lt_of_lt_of_le q.lt (by rw[z];exact hb)) (Nat.lt_irrefl _)
 ·exact absurd (Nat.lt_of_lt_of_le (Heap.lt_size (I.pin p hp).1) (by rw[z];exact hb)) (Nat.lt_irrefl _)
structure Turn (P:Program)(w:World)(K:PySem.W.Frag)(tg:Expr)(J:It)(fp:List Addr)(it:Addr)(tn:Nat→Heap→Prop):Prop where
 mem:it∈fp
 obj:∀i h,tn i h→∀b∈fp,∃o,h.get? b=some o∧∀v,o.data≠.cell v
 keep:∀i h h',tn i h→(∀b∈fp,∀o,h.get? b=some o→h'.get? b=some o)→tn i h'
 item:∀(X:Cx),X.prog=P→X.w=w→X.K=K→X.calm=true→∀(i:Nat) (pins:List (Addr×Obj)) (s:Shared) (σ:St) (H:Hp) (E:Value→Shared→Prop),Inv X pins σ H s→(∀b∈fp,FpOk X pins H b)→tn i s.heap→J.go i H →
  wpAny (model P w) X.A (pyNext (.ref it)) (fun r s1=>∃u,r=some u ∧
   wpAny (model P w) X.A (letOwnedTupleGo tg (.ref it) u) (fun _ s2=>∃x H',Inv X pins σ H' s2∧RelV x u∧J.yld i H x H'∧tn (i+1) s2.heap∧∀b∈fp,H' b=none) E s1) E s
 done:∀(X:Cx),X.prog=P→X.w=w→X.K=K→X.calm=true→∀(i:Nat) (pins:List (Addr×Obj)) (s:Shared) (σ:St) (H:Hp) (E:Value→Shared→Prop),Inv X pins σ H s→(∀b∈fp,FpOk X pins H b)→tn i s.heap→J.stop i H →
  wpAny (model P w) X.A (pyNext (.ref it)) (fun r s1=>r=none∧Inv X pins σ H s1) E s
 self:∀(A:Around) (i:Nat) (s:Shared) (Q:Value→Shared→Prop) (E:Value→Shared→Prop),tn i s.heap→Q (.ref it) s→wpAny (model P w) A (pyIter (.ref it)) Q E s
abbrev TI:=St→Hp→(It→Hp→Prop)→Prop
def PIE (X:Cx)(pins:List (Addr×Obj))(σ:St)(tg:Expr)(R:It→Hp→Prop)(itv:Value)(s2:Shared):Prop:=
 ∃(it:Addr) (fp:List Addr) (tn:Nat→Heap→Prop) (J:It) (H':Hp),itv=.ref it∧Inv X pins σ H' s2∧Turn X.prog X.w X.K tg J fp it tn∧tn 0 s2.heap∧(∀b∈fp,FpOk X pins H' b)∧R J H'
def PI (X:Cx)(tg iter:Expr)(wi:TI):Prop:=
 ∀(pins:List (Addr×Obj)) (s:Shared) (σ:St) (H:Hp) (R:It→Hp→Prop),Inv X pins σ H s→wi σ H R →
  wpAny (model X.prog X.w) X.A (eval iter X.env) (fun v s1=>wpAny (model X.prog X.w) X.A (pyIter v) (PIE X pins σ tg R) X.xe s1) X.xe s
theorem go_of {M:Model}{A:Around}{E:Value→Shared→Prop}{s:Shared}{tg:Expr}{it:Addr}{u:Value}{o:Obj}{n:String}{vs:Array Value}{Q:Unit→Shared→Prop}(ho:s.heap.get? it=some o)(hc:o.cls=.type n)(hd:o.data=.fields vs)
    (hn:["enumerate","zip","dict_itemiterator","dict_reverseitemiterator","odict_iterator","itertools.zip_longest","itertools.pairwise"].contains n=false) (hQ:Q () s):wpAny M A (letOwnedTupleGo tg (.ref it) u) Q E s:=by
  unfold letOwnedTupleGo
  cases tg<;>first
    | exact wpAny_pure hQ
    | (cases u<;>first
        | exact wpAny_pure hQ
        | (refine wpAny_bind (wpAny_load ho ?_)
           rw[hc,hd]
           show wpAny M A (if (["enumerate","zip","dict_itemiterator","dict_reverseitemiterator","odict_iterator","itertools.zip_longest","itertools.pairwise"].contains n&&vs[0]? == some (rawInt _))=true then _ else _) Q E s
           rw[if_neg (by intro h;rw[hn,Bool.false_and]at h;cases h)]
           exact wpAny_pure hQ))
def Itl (K:PySem.W.Frag)(a:Addr):It:=
 ⟨fun i H=>∃xs x,SqL K H a xs∧xs[i]?=some x,fun i H x H'=>H'=H∧∀xs,SqL K H a xs→xs[i]?=some x,fun i H=>∃xs,SqL K H a xs∧xs.length≤i⟩
def Itt (K:PySem.W.Frag)(a:Addr):It:=
 ⟨fun i H=>∃xs x,SqT K H a xs∧xs[i]?=some x,fun i H x H'=>H'=H∧∀xs,SqT K H a xs→xs[i]?=some x,fun i H=>∃xs,SqT K H a xs∧xs.length≤i⟩
def Itr (lo:Int)(n:Nat):It:=⟨fun i _=>i<n,fun i H x H'=>H'=H∧x=.int (lo+i),fun i _=>n≤i⟩
theorem turn_list {P:Program}{w:World}{K:PySem.W.Frag}{tg:Expr}(a it:Addr):Turn P w K tg (Itl K a) [it] it (fun i h=>h.IsListIter it a i) where
 mem:=by simp
 obj:=fun i h st b hb=>by
  have e:b=it:=by simpa using hb
  subst e
  obtain⟨o,e,c,d⟩:=st
  exact⟨o,e,fun v z=>by rw[d]at z;cases z⟩
 keep:=fun i h h' st k=>st.at fun o e=>k it (by simp) o e
 item:=by
  intro X hP hw hK hc i pins s σ H E I hf st hg
  subst hP hw hK
  obtain⟨xs,x,hq,hx⟩:=hg
  obtain⟨its,rv,p,hz⟩:=I.list hq
  obtain⟨u,hu,ru⟩:=rv.get hx
  obtain⟨f0,f1,f2,f3,f4,f5⟩:=hf it (by simp)
  refine wpAny_pyNext_list_item st p.isList (x:=u) (by simpa using hu) fun h' st' sb=>?_
  have I1:Inv X pins σ H { s with heap:=h' }:=I.turned (t':=s.toks) (fun b o hb e=>(sb.2 b hb).trans e) f0 f1 f3 f4 f5
  obtain⟨o,e,c,d⟩:=id st'
  exact⟨u,rfl,go_of (s:={ s with heap:=h' }) e c d (by decide) ⟨x,H,I1,ru,⟨rfl,fun ys hy=>by rw[I.list_inj hy hq];exact hx⟩,st',fun b hb=>(hf b hb).1⟩⟩
 done:=by
  intro X hP hw hK hc i pins s σ H E I hf st hg
  subst hP hw hK
  obtain⟨xs,hq,hx⟩:=hg
  obtain⟨its,rv,p,hz⟩:=I.list hq
  obtain⟨f0,f1,f2,f3,f4,f5⟩:=hf it (by simp)
  have hl:=rv.length
  exact wpAny_pyNext_list_end (I.ok.hd hc) st p.isList (by simp;omega) fun h' eb=>⟨rfl,I.turned (t':=s.toks) (fun b o hb e=>eb b o hb e) f0 f1 f3 f4 f5⟩
 self:=fun _ _ _ _ _ st h=>wpAny_pyIter_listiter st h
theorem turn_range {P:Program}{w:World}{K:PySem.W.Frag}{tg:Expr}(it:Addr)(lo:Int)(n:Nat):Turn P w K tg (Itr lo n) [it] it (fun i h=>IsRangeIter h it (lo+(i:Nat)*1) ((n:Int)-(i:Nat)) 1) where
 mem:=by simp
 obj:=fun i h st b hb=>by
  have e:b=it:=by simpa using hb
  subst e
  exact⟨_,st,fun v z=>by
   have z':Data.fields _=Data.cell v:=z
   cases z'⟩
 keep:=fun i h h' st k=>k it (by simp) _ st
 item:=by
  intro X hP hw hK hc i pins s σ H E I hf st hg
  subst hP hw hK
  obtain⟨f0,f1,f2,f3,f4,f5⟩:=hf it (by simp)
  have W:=Walks.range (prog:=X.prog) (w:=X.w) (I.ok.hd hc) it lo 1 n
  refine W.item i s _ _ hg st fun v h' tk hv st' kk=>?_
  obtain⟨t,rfl⟩:=hv
  have I1:Inv X pins σ H { s with heap:=h',toks:=tk }:=I.turned (fun b o hb e=>kk b o (by simpa using hb) e) f0 f1 f3 f4 f5
  refine⟨_,rfl,go_of (s:={ s with heap:=h',toks:=tk }) (n:="range_iterator") st' rfl rfl (by decide) ⟨.int (lo+i),H,I1,⟨t,?_⟩,⟨rfl,rfl⟩,st',fun b hb=>(hf b hb).1⟩⟩
  rw[Int.mul_one]
 done:=by
  intro X hP hw hK hc i pins s σ H E I hf st hg
  subst hP hw hK
  obtain⟨f0,f1,f2,f3,f4,f5⟩:=hf it (by simp)
  exact wpAny_pyNext_range_end (I.ok.hd hc) st (by have:n≤i:=hg;omega) fun h' eb=>⟨rfl,I.turned (t':=s.toks) (fun b o hb e=>eb b o hb e) f0 f1 f3 f4 f5⟩
 self:=fun _ _ _ _ _ st h=>wpAny_pyIter_rangeiter st h
section
variable {X:Cx}{tg:Expr}
def iList (K:PySem.W.Frag)(tl:TE):TI:=fun σ H R=>tl σ H fun x H1=>∃a,x=.ref a∧(∃xs,SqL K H1 a xs)∧R (Itl K a) H1
def iTup (K:PySem.W.Frag)(tl:TE):TI:=fun σ H R=>tl σ H fun x H1=>∃a,x=.ref a∧(∃xs,SqT K H1 a xs)∧R (Itt K a) H1
theorem pi_list {l:Expr}{tl:TE}(hl:PE X l tl):PI X tg l (iList X.K tl):=by
 intro pins s σ H R I h
 refine thn (hl pins s σ H _ I h) fun v s1 ⟨x,H1,I1,r1,q1⟩=>?_
 obtain⟨a,e,⟨xs,hq⟩,q⟩:=q1
 subst e
 cases r1
 obtain⟨its,rv,p,hz⟩:=I1.list hq
 refine wpAny_pyIter_list p.isList ?_
 refine⟨s1.heap.objs.size,[s1.heap.objs.size],_,_,H1,rfl,I1.kept (t':=s1.toks) fun b o e=>Heap.get?_push_of_some _ e,turn_list a _,⟨_,Heap.get?_push_size _ rfl,rfl,rfl⟩,fun b hb=>?_,q⟩
 have e:b=s1.heap.objs.size:=by simpa using hb
 subst e
 exact I1.fpOk (Nat.le_refl _) (I1.hok.fresh (Nat.le_refl _))
theorem range_it {pins:List (Addr×Obj)}{σ:St}{H:Hp}{s:Shared}{R:It→Hp→Prop}{E:Value→Shared→Prop}{lo hi:Int}{t u v:Tok}{tk:Nat}(I:Inv X pins σ H s)(h1:-(2 ^ 62)≤lo)(h2:lo<2 ^ 62)(h3:-(2 ^ 62)≤hi)(h4:hi<2 ^ 62)
  (q:R (Itr lo (hi-lo).toNat) H):wpAny (model X.prog X.w) X.A (pyIter (.ref s.heap.objs.size)) (PIE X pins σ tg R) E { s with heap:=s.heap.push { cls:=.type "range",data:=.fields #[.int lo t,.int hi u,.int 1 v] },toks:=tk }:=by
 refine wpAny_pyIter_range (IsRange.new ..) (small_one h1 h2 h3 h4) ?_
 have I1:Inv X pins σ H { s with heap:=s.heap.push { cls:=.type "range",data:=.fields #[.int lo t,.int hi u,.int 1 v] },toks:=tk }:=I.kept fun b o e=>Heap.get?_push_of_some _ e
 refine⟨(s.heap.push { cls:=.type "range",data:=.fields #[.int lo t,.int hi u,.int 1 v] }).objs.size,[(s.heap.push { cls:=.type "range",data:=.fields #[.int lo t,.int hi u,.int 1 v] }).objs.size],_,_,H,rfl,
  I1.kept (t':=tk) fun b o e=>Heap.get?_push_of_some _ e,turn_range _ lo (hi-lo).toNat,?_,fun b hb=>?_,q⟩
 ·have e1:lo+((0:Nat):Int)*1=lo:=by simp
  have e2:(((hi-lo).toNat:Nat):Int)-((0:Nat):Int)=Builtin.Range.rangeSize lo hi 1:=by rw[rangeSize_one];split<;>omega
  show IsRangeIter _ _ (lo+((0:Nat):Int)*1) ((((hi-lo).toNat:Nat):Int)-((0:Nat):Int)) 1
  rw[e1,e2]
  exact Heap.get?_push_size _ rfl
 ·have e:b=(s.heap.push { cls:=.type "range",data:=.fields #[.int lo t,.int hi u,.int 1 v] }).objs.size:=by simpa using hb
  subst e
  exact I1.fpOk (Nat.le_refl _) (I1.hok.fresh (Nat.le_refl _))
def iRng1 (ta:TA):TI:=fun σ H R=>ta σ H fun vs H1=>∃j:Int,vs=[.int j]∧-(2 ^ 62)≤j∧j<2 ^ 62∧R (Itr 0 j.toNat) H1
def iRng2 (ta:TA):TI:=fun σ H R=>ta σ H fun vs H1=>∃i j:Int,vs=[.int i,.int j]∧(-(2 ^ 62)≤i∧i<2 ^ 62∧-(2 ^ 62)≤j∧j<2 ^ 62)∧R (Itr i (j-i).toNat) H1
theorem pi_range1 {a:Expr} {ta:TA} {p pos:Pos} (hg:Gl X "range") (hm:X.mg "range"=none) (ha:PA X [a] ta) (hs:starEach [a] X.env=[(false,eval a X.env)]:=by rfl):PI X tg (.Call (.Name "range" p) [a] [] pos) (iRng1 ta):=by
 intro pins s σ H R I h
 refine Call_ (ld_blt I hg hm boot_range (PyProof.Rows.callWith_type1 (thn (ha pos pins s σ H _ I h) fun us s1 ⟨vs,H1,I1,r1,q1⟩=>?_) hs rfl))
 obtain⟨j,e,q1,q2,q⟩:=q1
 subst e
 cases r1 with
 | cons r rr=>
  cases rr
  obtain⟨t,rfl⟩:=r
  exact call_range_1 (range_it I1 (by omega) (by omega) q1 q2 (by simpa using q))
def tFor (wi:TI)(g:TG)(tb:TS):TS:=fun D σ H=>wi σ H fun J H1=>∃W:Nat→Nat→St→Hp→Prop,(∃m,W 0 m σ H1)∧∀i m σ H,W i m σ H →
 (J.stop i H∧D.nx σ H)∨(J.go i H∧∃N:St→Hp→Prop,(∀σ' H',N σ' H'→∃m',m'<m∧W (i+1) m' σ' H')∧∀x H',J.yld i H x H'→g x σ H' fun σ2 H2=>tb { D with nx:=N,ct:=N,bk:=D.nx } σ2 H2)
def pinsAt (fp:List Addr)(h:Heap):List (Addr×Obj):=fp.filterMap fun b=>(h.get? b).map fun o=>(b,o)
theorem mem_pinsAt {fp:List Addr}{h:Heap}{b:Addr}{o:Obj}(hb:b∈fp)(e:h.get? b=some o):(b,o)∈pinsAt fp h:=List.mem_filterMap.mpr ⟨b,hb,by rw[e];rfl⟩
theorem of_pinsAt {fp:List Addr}{h:Heap}{p:Addr×Obj}(hp:p∈pinsAt fp h):p.1∈fp∧h.get? p.1=some p.2:=by
 obtain⟨b,hb,e⟩:=List.mem_filterMap.mp hp
 cases q:h.get? b with
 | none=>rw[q]at e;cases e
 | some o=>
  rw[q]at e
  have e':(b,o)=p:=Option.some.inj e
  subst e'
  exact⟨hb,q⟩
theorem Inv.pinned {pins:List (Addr×Obj)}{σ:St}{H:Hp}{s:Shared}{fp:List Addr}(I:Inv X pins σ H s)(hf:∀b∈fp,FpOk X pins H b)(ho:∀b∈fp,∃o,s.heap.get? b=some o∧∀v,o.data≠.cell v):Inv X (pins++pinsAt fp s.heap) σ H s:=
 I.pins_of fun p hp=>(List.mem_append.mp hp).elim (fun z=>I.pin p (List.mem_append_right _ z)) fun z=>by
  obtain⟨hb,e⟩:=of_pinsAt z
  obtain⟨f0,f1,f2,_⟩:=hf p.1 hb
  obtain⟨o,e',d⟩:=ho p.1 hb
  rw[e]at e';cases e'
  exact⟨e,f0,f1,f2,d⟩
theorem Inv.unpinned {pins pl:List (Addr×Obj)}{σ:St}{H:Hp}{s:Shared}(I:Inv X (pins++pl) σ H s):Inv X pins σ H s:=I.pins_of fun p hp=>I.pin p (List.mem_append_right _ (List.mem_append_left _ hp))
theorem ps_for {iter:Expr}{body:List Stmt}{wi:TI}{g:TG}{tb:TS}{pos:Pos}(hp:PassesOwn (model X.prog X.w) X.A X.env X.xe)(hc:X.calm=true)(hi:PI X tg iter wi)(hg:PG X tg g)(hb:PSs X body tb)
  (hs:∀x,foldedSetIterable iter X.env x=pure x:=by intro _;rfl):PS X (.For tg iter body [] pos) (tFor wi g tb):=by
 intro pins s σ H D I h
 refine wpAny_For (thn (hi pins s σ H _ I h) fun v s1 h1=>thn h1 fun itv s2 h2=>?_) hs
 obtain⟨it,fp,tn,J,H2,e,I2,T,st2,f2,W,⟨m0,w0⟩,turn⟩:=h2
 subst e
 have stat:∀ {H':Hp},(∀b∈fp,H' b=none)→∀b∈fp,FpOk X pins H' b:=fun hn b hb=>⟨hn b hb,(f2 b hb).2⟩
 refine codeAny_forLoop_any (fun n s'=>∃i σ' H',Inv X pins σ' H' s'∧tn i s'.heap∧(∀b∈fp,H' b=none)∧W i n σ' H') ?_ m0 ⟨0,σ,H2,I2,st2,fun b hb=>(f2 b hb).1,w0⟩
 rintro n s3 ⟨i,σ3,H3,I3,st3,fr3,w3⟩
 rcases turn i n σ3 H3 w3 with⟨stop,qn⟩|⟨go,N,hN,step⟩
 ·refine wpAny_passesOwn hp (thn (T.done X rfl rfl rfl hc i pins s3 σ3 H3 X.xe I3 (stat fr3) st3 stop) fun r s4 ⟨hr,I4⟩=>?_)
  subst hr
  exact wpAny_execs_nil ⟨σ3,H3,I4,qn⟩
 ·refine wpAny_passesOwn hp (thn (T.item X rfl rfl rfl hc i pins s3 σ3 H3 X.xe I3 (stat fr3) st3 go) fun r s4 ⟨u,hr,h4⟩=>?_)
  subst hr
  refine wpAny_passesOwn hp (thn h4 fun _ s5 ⟨x,H5,I5,r5,y5,st5,fr5⟩=>?_)
  have I5':=I5.pinned (stat fr5) (T.obj _ _ st5)
  refine wpAny_passesOwn hp (thn (hg _ s5 σ3 H5 x u _ I5' r5 (step x H5 y5)) fun _ s6 ⟨σ6,H6,I6,q6⟩=>?_)
  refine wpAny_passesOwn hp (thn (hb _ s6 σ6 H6 _ I6 q6) fun f s7 q7=>?_)
  have again:∀ {σ7:St} {H7:Hp},Inv X (pins++pinsAt fp s5.heap) σ7 H7 s7→N σ7 H7→∃m,m<n∧∃i σ' H',Inv X pins σ' H' s7∧tn i s7.heap∧(∀b∈fp,H' b=none)∧W i m σ' H':=fun {σ7 H7} I7 n7=>by
   obtain⟨m',hm,w7⟩:=hN σ7 H7 n7
   refine⟨m',hm,i+1,σ7,H7,I7.unpinned,T.keep _ _ _ st5 fun b hb o e=>(I7.pin (b,o) (List.mem_append_right _ (List.mem_append_right _ (mem_pinsAt hb e)))).1,fun b hb=>?_,w7⟩
   obtain⟨o,e,d⟩:=T.obj _ _ st5 b hb
   exact(I7.pin (b,o) (List.mem_append_right _ (List.mem_append_right _ (mem_pinsAt hb e)))).2.1
  cases f with
  | next=>obtain⟨σ7,H7,I7,n7⟩:=q7;exact again I7 n7
  | cont=>obtain⟨σ7,H7,I7,n7⟩:=q7;exact again I7 n7
  | brk=>obtain⟨σ7,H7,I7,q7⟩:=q7;exact⟨σ7,H7,I7.unpinned,q7⟩
  | ret v=>obtain⟨x7,σ7,H7,I7,r7,q7⟩:=q7;exact⟨x7,σ7,H7,I7.unpinned,r7,q7⟩
end
theorem for_list {K:PySem.W.Frag}{a:Addr}{xs:List V}{g:TG}{tb:TS}{D:Ends}{σ:St}{H:Hp}(Pv:Nat→St→Hp→Prop)(h0:Pv 0 σ H)(hl:∀i σ H,i≤xs.length→Pv i σ H→SqL K H a xs)
  (hs:∀i x σ H,xs[i]?=some x→Pv i σ H→g x σ H fun σ2 H2=>tb { D with nx:=Pv (i+1),ct:=Pv (i+1),bk:=D.nx } σ2 H2) (hd:∀σ H,Pv xs.length σ H→D.nx σ H):
  ∃W:Nat→Nat→St→Hp→Prop,(∃m,W 0 m σ H)∧∀i m σ H,W i m σ H →
   ((Itl K a).stop i H∧D.nx σ H)∨((Itl K a).go i H∧∃N:St→Hp→Prop,(∀σ' H',N σ' H'→∃m',m'<m∧W (i+1) m' σ' H')∧∀x H',(Itl K a).yld i H x H'→g x σ H' fun σ2 H2=>tb { D with nx:=N,ct:=N,bk:=D.nx } σ2 H2):=by
 refine⟨fun i m σ H=>m=xs.length-i∧i≤xs.length∧Pv i σ H,⟨xs.length,by simp,Nat.zero_le _,h0⟩,?_⟩
 rintro i m σ H ⟨rfl,hi,p⟩
 have q:=hl i σ H hi p
 by_cases hlt:i<xs.length
 ·refine .inr ⟨⟨xs,xs[i],q,by simp[hlt]⟩,Pv (i+1),fun σ' H' p'=>⟨xs.length-(i+1),by omega,rfl,hlt,p'⟩,fun x H' y=>?_⟩
  obtain⟨e,y⟩:=y
  subst e
  exact hs i x σ _ (y xs q) p
 ·have e:i=xs.length:=by omega
  subst e
  exact .inl ⟨⟨xs,q,Nat.le_refl _⟩,hd σ H p⟩
theorem for_range {lo:Int}{n:Nat}{g:TG}{tb:TS}{D:Ends}{σ:St}{H:Hp}(Pv:Nat→St→Hp→Prop)(h0:Pv 0 σ H)
  (hs:∀i σ H,i<n→Pv i σ H→g (.int (lo+i)) σ H fun σ2 H2=>tb { D with nx:=Pv (i+1),ct:=Pv (i+1),bk:=D.nx } σ2 H2) (hd:∀σ H,Pv n σ H→D.nx σ H):
  ∃W:Nat→Nat→St→Hp→Prop,(∃m,W 0 m σ H)∧∀i m σ H,W i m σ H →
   ((Itr lo n).stop i H∧D.nx σ H)∨((Itr lo n).go i H∧∃N:St→Hp→Prop,(∀σ' H',N σ' H'→∃m',m'<m∧W (i+1) m' σ' H')∧∀x H',(Itr lo n).yld i H x H'→g x σ H' fun σ2 H2=>tb { D with nx:=N,ct:=N,bk:=D.nx } σ2 H2):=by
 refine⟨fun i m σ H=>m=n-i∧i≤n∧Pv i σ H,⟨n,by simp,Nat.zero_le _,h0⟩,?_⟩
 rintro i m σ H ⟨rfl,hi,p⟩
 by_cases hlt:i<n
 ·refine .inr ⟨hlt,Pv (i+1),fun σ' H' p'=>⟨n-(i+1),by omega,rfl,hlt,p'⟩,fun x H' y=>?_⟩
  obtain⟨e,y⟩:=y
  subst e y
  exact hs i σ _ hlt p
 ·have e:i=n:=by omega
  subst e
  exact .inl ⟨Nat.le_refl _,hd σ H p⟩
abbrev R2:=V→V→Hp→VK→Prop
def OpR (X:Cx)(f:Value→Value→Sem Value)(r:R2):Prop:=
 ∀(pins:List (Addr×Obj)) (s:Shared) (σ:St) (H:Hp) (x y:V) (v u:Value) (Q:VK),Inv X pins σ H s→RelV x v→RelV y u→r x y H Q →
  wpAny (model X.prog X.w) X.A (f v u) (EP X pins σ Q) X.xe s
def UnR (X:Cx)(f:Value→Sem Value)(r:V→Hp→VK→Prop):Prop:=
 ∀(pins:List (Addr×Obj)) (s:Shared) (σ:St) (H:Hp) (x:V) (v:Value) (Q:VK),Inv X pins σ H s→RelV x v→r x H Q →
  wpAny (model X.prog X.w) X.A (f v) (EP X pins σ Q) X.xe s
def CallR (X:Cx)(f:Value)(r:List V→Hp→VK→Prop):Prop:=
 ∀(pins:List (Addr×Obj)) (s:Shared) (σ:St) (H:Hp) (xs:List V) (us:List Value) (Q:VK),Inv X pins σ H s→Vals xs us→r xs H Q →
  wpAny (model X.prog X.w) X.A (call f us) (EP X pins σ Q) X.xe s
def TruR (X:Cx)(r:V→Hp→(Bool→Hp→Prop)→Prop):Prop:=
 ∀(pins:List (Addr×Obj)) (s:Shared) (σ:St) (H:Hp) (x:V) (v:Value) (Q:Bool→Hp→Prop),Inv X pins σ H s→RelV x v→r x H Q →
  wpAny (model X.prog X.w) X.A (truthy v) (TP X pins σ Q) X.xe s
def tOp (r:R2)(ta tb:TE):TE:=fun σ H Q=>ta σ H fun x H1=>tb σ H1 fun y H2=>r x y H2 Q
def tUn (r:V→Hp→VK→Prop)(ta:TE):TE:=fun σ H Q=>ta σ H fun x H1=>r x H1 Q
def rI (C:Int→Int→Prop)(g:Int→Int→V):R2:=fun x y H Q=>∃i j,x=.int i∧y=.int j∧C i j∧Q (g i j) H
def rI0 (g:Int→Int→V):R2:=fun x y H Q=>∃i j,x=.int i∧y=.int j∧Q (g i j) H
def rU (g:Int→V):V→Hp→VK→Prop:=fun x H Q=>∃i,x=.int i∧Q (g i) H
section
variable {X:Cx}{a b c:Expr}{ta tb tc:TE}{pos:Pos}
theorem binT (ha:PE X a ta)(hb:PE X b tb){pins:List (Addr×Obj)}{s:Shared}{σ:St}{H:Hp}{R:V→V→Hp→Prop}(I:Inv X pins σ H s)
  (h:ta σ H fun x H1=>tb σ H1 fun y H2=>R x y H2) {Q:Value→Shared→Prop} {f:Value→Value→Sem Value}
  (hf:∀v u s2 x y H2,Inv X pins σ H2 s2→RelV x v→RelV y u→R x y H2→wpAny (model X.prog X.w) X.A (f v u) Q X.xe s2):
  wpAny (model X.prog X.w) X.A (eval a X.env) (fun v s₁=>wpAny (model X.prog X.w) X.A (eval b X.env) (fun u s₂=>wpAny (model X.prog X.w) X.A (f v u) Q X.xe s₂) X.xe s₁) X.xe s:=by
 refine thn (ha pins s σ H _ I h) fun v s1 ⟨x,H1,I1,r1,q1⟩=>?_
 refine thn (hb pins s1 σ H1 _ I1 q1) fun u s2 ⟨y,H2,I2,r2,q2⟩=>?_
 exact hf v u s2 x y H2 I2 r1 r2 q2
theorem pe_op {op:Operator}{r:R2}(ho:OpR X (binaryOp op) r)(ha:PE X a ta)(hb:PE X b tb):PE X (.BinOp a op b pos) (tOp r ta tb):=by
 intro pins s σ H Q I h
 exact wpAny_BinOp (binT ha hb I h fun v u s2 x y H2 I2 rx ry q=>ho pins s2 σ H2 x y v u Q I2 rx ry q)
theorem pe_un {op:UnaryOp}{r:V→Hp→VK→Prop}(ho:UnR X (unaryOp op) r)(ha:PE X a ta):PE X (.UnaryOp op a pos) (tUn r ta):=by
 intro pins s σ H Q I h
 exact UnaryOp_ (thn (ha pins s σ H _ I h) fun v s1 ⟨x,H1,I1,r1,q1⟩=>ho pins s1 σ H1 x v Q I1 r1 q1)
theorem opI {f:Value→Value→Sem Value}{C:Int→Int→Prop}{g:Int→Int→Int}
  (rule:∀(i j:Int) (t u:Tok) (s:Shared) (Q:Value→Shared→Prop) (E:Value→Shared→Prop),C i j→Q (.int (g i j) s.toks) { s with toks:=s.toks+1 }→wpAny (model X.prog X.w) X.A (f (.int i t) (.int j u)) Q E s):
  OpR X f (rI C fun i j=>.int (g i j)):=by
 intro pins s σ H x y v u Q I rx ry h
 obtain⟨i,j,rfl,rfl,hc,q⟩:=h
 obtain⟨t,rfl⟩:=rx
 obtain⟨t',rfl⟩:=ry
 exact rule i j t t' s _ _ hc ⟨.int (g i j),H,I.tok _,⟨_,rfl⟩,q⟩
theorem opI0 {f:Value→Value→Sem Value}{g:Int→Int→Int}
  (rule:∀(i j:Int) (t u:Tok) (s:Shared) (Q:Value→Shared→Prop) (E:Value→Shared→Prop),Q (.int (g i j) s.toks) { s with toks:=s.toks+1 }→wpAny (model X.prog X.w) X.A (f (.int i t) (.int j u)) Q E s):
  OpR X f (rI0 fun i j=>.int (g i j)):=by
 intro pins s σ H x y v u Q I rx ry h
 obtain⟨i,j,rfl,rfl,q⟩:=h
 obtain⟨t,rfl⟩:=rx
 obtain⟨t',rfl⟩:=ry
 exact rule i j t t' s _ _ ⟨.int (g i j),H,I.tok _,⟨_,rfl⟩,q⟩
theorem opB0 {f:Value→Value→Sem Value}{g:Int→Int→Bool}
  (rule:∀(i j:Int) (t u:Tok) (s:Shared) (Q:Value→Shared→Prop) (E:Value→Shared→Prop),Q (.bool (g i j)) s→wpAny (model X.prog X.w) X.A (f (.int i t) (.int j u)) Q E s):
  OpR X f (rI0 fun i j=>.bl (g i j)):=by
 intro pins s σ H x y v u Q I rx ry h
 obtain⟨i,j,rfl,rfl,q⟩:=h
 obtain⟨t,rfl⟩:=rx
 obtain⟨t',rfl⟩:=ry
 exact rule i j t t' s _ _ ⟨.bl (g i j),H,I,rfl,q⟩
def CDiv (i j:Int):Prop:=0<j∧j<1073741824
def CMul (i j:Int):Prop:=(-(2 ^ 64)<i∧i<2 ^ 64)∨(-(2 ^ 64)<j∧j<2 ^ 64)
theorem CMul.ok {i j:Int}(h:CMul i j):IntMulOk i j:=by
 rcases h with⟨h1,h2⟩|⟨h1,h2⟩
 ·exact .of_left (intBits_le_64 h1 h2)
 ·exact .of_right (intBits_le_64 h1 h2)
theorem op_add:OpR X (binaryOp .Add) (rI0 fun i j=>.int (i+j)):=opI0 fun _ _ _ _ _ _ _ q=>add_int q
theorem op_sub:OpR X (binaryOp .Sub) (rI0 fun i j=>.int (i-j)):=opI0 fun _ _ _ _ _ _ _ q=>sub_int q
theorem op_mul:OpR X (binaryOp .Mult) (rI CMul fun i j=>.int (i*j)):=opI fun _ _ _ _ _ _ _ hc q=>mul_int q hc.ok
theorem op_fdiv:OpR X (binaryOp .FloorDiv) (rI CDiv fun i j=>.int (i/j)):=opI fun i j _ _ _ _ _ hc q=>by
 have h1:(0:Int)<j:=hc.1
 have h2:j<1073741824:=hc.2
 exact floordiv_int (by omega) (by rw[Int.fdiv_eq_ediv_of_nonneg i (by omega)];exact q) (.inl (PyProof.noPylong_small (by omega)))
theorem op_mod:OpR X (binaryOp .Mod) (rI (fun _ j=>0<j) fun i j=>.int (i % j)):=opI fun i j _ _ _ _ _ hc q=>by
 have h1:(0:Int)<j:=hc
 exact mod_int' (by omega) (by rw[Int.fmod_eq_emod_of_nonneg i (by omega)];exact q)
theorem unI {f:Value→Sem Value}{g:Int→Int}
  (rule:∀(i:Int) (t:Tok) (s:Shared) (Q:Value→Shared→Prop) (E:Value→Shared→Prop),Q (.int (g i) s.toks) { s with toks:=s.toks+1 }→wpAny (model X.prog X.w) X.A (f (.int i t)) Q E s):
  UnR X f (rU fun i=>.int (g i)):=by
 intro pins s σ H x v Q I rx h
 obtain⟨i,rfl,q⟩:=h
 obtain⟨t,rfl⟩:=rx
 exact rule i t s _ _ ⟨.int (g i),H,I.tok _,⟨_,rfl⟩,q⟩
theorem un_neg:UnR X (unaryOp .USub) (rU fun i=>.int (-i)):=unI fun _ _ _ _ _ q=>neg_int q
end
def scal:V→V→Bool
 | .non,.non=>true | .non,.int _=>true | .int _,.non=>true | .non,.bl _=>true | .bl _,.non=>true | .non,.str _=>true | .str _,.non=>true
 | .int _,.int _=>true | .bl _,.bl _=>true | .str _,.str _=>true | .byt _,.byt _=>true
 | .int _,.str _=>true | .str _,.int _=>true | .bl _,.str _=>true | .str _,.bl _=>true
 | _,_=>false
def rEq:R2:=fun x y H Q=>scal x y=true∧Q (.bl (decide (x=y))) H
def rNe:R2:=fun x y H Q=>scal x y=true∧Q (.bl (!decide (x=y))) H
theorem dec_int {i j:Int}:decide (V.int i=V.int j)=(i == j):=by
 rw[Bool.eq_iff_iff]
 simp
theorem dec_bl {i j:Bool}:decide (V.bl i=V.bl j)=(i == j):=by
 rw[Bool.eq_iff_iff]
 simp
theorem dec_str {i j:Str}:decide (V.str i=V.str j)=(i == j):=by
 rw[Bool.eq_iff_iff]
 simp
theorem dec_byt {i j:Array UInt8}:decide (V.byt i=V.byt j)=(i.toList == j.toList):=by
 rw[Bool.eq_iff_iff]
 cases i
 cases j
 simp
section
variable {X:Cx}{a b c:Expr}{ta tb tc:TE}{pos:Pos}
theorem fin_bl {pins:List (Addr×Obj)}{σ:St}{H:Hp}{s:Shared}{Q:VK}{k k':Bool}(I:Inv X pins σ H s)(q:Q (.bl k) H)(e:k=k'):EP X pins σ Q (.bool k') s:=by
 subst e
 exact⟨.bl k,H,I,rfl,q⟩
theorem op_eq:OpR X (compareOp .Eq) rEq:=by
 intro pins s σ H x y v u Q I rx ry h
 obtain⟨hs,q⟩:=h
 cases x with
 | non=>
  cases rx
  cases y with
  | non=>cases ry;exact PySem.EqNone.eq_none_none (fin_bl I q (by simp))
  | bl j=>cases ry;exact PySem.EqNone.eq_none_bool (fin_bl I q (by simp))
  | int j=>obtain⟨t',rfl⟩:=ry;exact PySem.EqNone.eq_none_int (fin_bl I q (by simp))
  | str j=>obtain⟨t',rfl⟩:=ry;exact PySem.EqNone.eq_none_str (fin_bl I q (by simp))
  | _=>exact absurd (show false=true from hs) Bool.false_ne_true
 | bl i=>
  cases rx
  cases y with
  | non=>cases ry;exact PySem.EqNone.eq_bool_none (fin_bl I q (by simp))
  | bl j=>cases ry;exact eq_bool (fin_bl I q dec_bl)
  | str j=>obtain⟨t',rfl⟩:=ry;exact PySem.EqMixed.eq_bool_str (fin_bl I q (by simp))
  | _=>exact absurd (show false=true from hs) Bool.false_ne_true
 | int i=>
  obtain⟨t,rfl⟩:=rx
  cases y with
  | non=>cases ry;exact PySem.EqNone.eq_int_none (fin_bl I q (by simp))
  | int j=>obtain⟨t',rfl⟩:=ry;exact eq_int (fin_bl I q dec_int)
  | str j=>obtain⟨t',rfl⟩:=ry;exact PySem.EqMixed.eq_int_str (fin_bl I q (by simp))
  | _=>exact absurd (show false=true from hs) Bool.false_ne_true
 | str i=>
  obtain⟨t,rfl⟩:=rx
  cases y with
  | non=>cases ry;exact PySem.EqNone.eq_str_none (fin_bl I q (by simp))
  | bl j=>cases ry;exact PySem.EqMixed.eq_str_bool (fin_bl I q (by simp))
  | int j=>obtain⟨t',rfl⟩:=ry;exact PySem.EqMixed.eq_str_int (fin_bl I q (by simp))
  | str j=>obtain⟨t',rfl⟩:=ry;exact eq_str (fin_bl I q dec_str)
  | _=>exact absurd (show false=true from hs) Bool.false_ne_true
 | byt i=>
  obtain⟨t,rfl⟩:=rx
  cases y with
  | byt j=>obtain⟨t',rfl⟩:=ry;exact PySem.W.eq_bytes (fin_bl I q dec_byt)
  | _=>exact absurd (show false=true from hs) Bool.false_ne_true
 | _=>cases y<;>exact absurd (show false=true from hs) Bool.false_ne_true
theorem op_ne:OpR X (compareOp .NotEq) rNe:=by
 intro pins s σ H x y v u Q I rx ry h
 obtain⟨hs,q⟩:=h
 cases x with
 | non=>
  cases rx
  cases y with
  | non=>cases ry;exact PySem.EqNone.ne_none_none (fin_bl I q (by simp))
  | bl j=>cases ry;exact PySem.EqNone.ne_none_bool (fin_bl I q (by simp))
  | int j=>obtain⟨t',rfl⟩:=ry;exact PySem.EqNone.ne_none_int (fin_bl I q (by simp))
  | str j=>obtain⟨t',rfl⟩:=ry;exact PySem.EqNone.ne_none_str (fin_bl I q (by simp))
  | _=>exact absurd (show false=true from hs) Bool.false_ne_true
 | bl i=>
  cases rx
  cases y with
  | non=>cases ry;exact PySem.EqNone.ne_bool_none (fin_bl I q (by simp))
  | bl j=>cases ry;exact ne_bool (fin_bl I q (congrArg not dec_bl))
  | str j=>obtain⟨t',rfl⟩:=ry;exact PySem.EqMixed.ne_bool_str (fin_bl I q (by simp))
  | _=>exact absurd (show false=true from hs) Bool.false_ne_true
 | int i=>
  obtain⟨t,rfl⟩:=rx
  cases y with
  | non=>cases ry;exact PySem.EqNone.ne_int_none (fin_bl I q (by simp))
  | int j=>obtain⟨t',rfl⟩:=ry;exact ne_int (fin_bl I q (congrArg not dec_int))
  | str j=>obtain⟨t',rfl⟩:=ry;exact PySem.EqMixed.ne_int_str (fin_bl I q (by simp))
  | _=>exact absurd (show false=true from hs) Bool.false_ne_true
 | str i=>
  obtain⟨t,rfl⟩:=rx
  cases y with
  | non=>cases ry;exact PySem.EqNone.ne_str_none (fin_bl I q (by simp))
  | bl j=>cases ry;exact PySem.EqMixed.ne_str_bool (fin_bl I q (by simp))
  | int j=>obtain⟨t',rfl⟩:=ry;exact PySem.EqMixed.ne_str_int (fin_bl I q (by simp))
  | str j=>obtain⟨t',rfl⟩:=ry;exact ne_str (fin_bl I q (congrArg not dec_str))
  | _=>exact absurd (show false=true from hs) Bool.false_ne_true
 | byt i=>
  obtain⟨t,rfl⟩:=rx
  cases y with
  | byt j=>obtain⟨t',rfl⟩:=ry;exact PySem.W.ne_bytes (fin_bl I q (congrArg not dec_byt))
  | _=>exact absurd (show false=true from hs) Bool.false_ne_true
 | _=>cases y<;>exact absurd (show false=true from hs) Bool.false_ne_true
theorem op_lt:OpR X (compareOp .Lt) (rI0 fun i j=>.bl (decide (i<j))):=opB0 fun _ _ _ _ _ _ _ q=>lt_int q
theorem op_le:OpR X (compareOp .LtE) (rI0 fun i j=>.bl (decide (i≤j))):=opB0 fun _ _ _ _ _ _ _ q=>le_int q
theorem op_gt:OpR X (compareOp .Gt) (rI0 fun i j=>.bl (decide (j<i))):=opB0 fun _ _ _ _ _ _ _ q=>gt_int q
theorem op_in_str:OpR X (compareOp .In) (fun x y H Q=>∃i j,x=.str i∧y=.str j∧Q (.bl (!(Builtin.Str.occurrences j i 0 j.length 1).isEmpty)) H):=by
 intro pins s σ H x y v u Q I rx ry h
 obtain⟨i,j,rfl,rfl,q⟩:=h
 obtain⟨t,rfl⟩:=rx
 obtain⟨t',rfl⟩:=ry
 exact in_str (fin_bl I q rfl)
theorem op_notN:OpR X (compareOp .IsNot) (fun x y H Q=>y=.non∧Q (.bl (!decide (x=.non))) H):=by
 intro pins s σ H x y v u Q I rx ry h
 obtain⟨rfl,q⟩:=h
 cases ry
 refine isnot_none_gen (fin_bl I q ?_)
 cases x<;>first
  | (cases rx;rfl)
  | (obtain⟨t,rfl⟩:=rx;rfl)
theorem op_notin_str:OpR X (compareOp .NotIn) (fun x y H Q=>∃i j,x=.str i∧y=.str j∧Q (.bl (!(!(Builtin.Str.occurrences j i 0 j.length 1).isEmpty))) H):=by
 intro pins s σ H x y v u Q I rx ry h
 obtain⟨i,j,rfl,rfl,q⟩:=h
 obtain⟨t,rfl⟩:=rx
 obtain⟨t',rfl⟩:=ry
 exact notIn_str (fin_bl I q rfl)
theorem nomark (b:Expr){op:CmpOp}(h:op≠.In:=by decide)(h2:op≠.NotIn:=by decide):behindInMarks op b=false:=by
 have e1:(op == CmpOp.In)=false:=by cases op<;>first | rfl | exact absurd rfl h
 have e2:(op == CmpOp.NotIn)=false:=by cases op<;>first | rfl | exact absurd rfl h2
 cases b<;>simp[behindInMarks,e1,e2]
theorem pe_cmpR {op:CmpOp}{r:R2}(ho:OpR X (compareOp op) r)(ha:PE X a ta)(hb:PE X b tb)(hm:behindInMarks op b=false):PE X (.Compare a [op] [b] pos) (tOp r ta tb):=by
 intro pins s σ H Q I h
 exact wpAny_Compare1 (binT ha hb I h fun v u s2 x y H2 I2 rx ry q=>ho pins s2 σ H2 x y v u Q I2 rx ry q) hm
def tTest (t:TE):TT:=fun σ H Q=>t σ H fun x H'=>∃k,x=.bl k∧Q k H'
theorem pt_cmpR {op:CmpOp}{r:R2}(ho:OpR X (compareOp op) r)(ha:PE X a ta)(hb:PE X b tb)(hm:behindInMarks op b=false):PT X (.Compare a [op] [b] pos) (tTest (tOp r ta tb)):=by
 intro pins s σ H Q I h
 refine wpAny_isTrue_Compare1 (thn (ha pins s σ H _ I h) fun v s1 ⟨x,H1,I1,r1,q1⟩=>thn (hb pins s1 σ H1 _ I1 q1) fun u s2 ⟨y,H2,I2,r2,q2⟩=>
  thn (ho pins s2 σ H2 x y v u _ I2 r1 r2 q2) fun c s3 ⟨z,H3,I3,r3,k,e,q3⟩=>?_) hm
 subst e
 cases r3
 exact wpAny_truthy_bool ⟨H3,I3,q3⟩
def tChain (r r':R2)(ta tb tc:TE):TE:=fun σ H Q=>ta σ H fun x H1=>tb σ H1 fun y H2=>r x y H2 fun z H3=>∃k,z=.bl k ∧
 (if k=true then tc σ H3 fun w' H4=>r' y w' H4 Q else Q (.bl false) H3)
def TruV (K:PySem.W.Frag)(x:V)(H:Hp)(k:Bool):Prop:=
 match x with
 | .non=>k=false
 | .bl b=>k=b
 | .int i=>k=(i != 0)
 | .str y=>y.length≤sizeLine∧k=((y.length:Int) != 0)
 | .byt y=>y.size≤sizeLine∧k=((y.size:Int) != 0)
 | .ref p=>(∃xs,SqL K H p xs∧k=!xs.isEmpty)∨(∃xs,SqT K H p xs∧k=!xs.isEmpty)∨∃kvs,H p=some (.dK kvs)∧k=!kvs.isEmpty
 | _=>False
theorem isEmpty_kv {κ:Type}{kvs:List (κ×V)}{vs:List (κ×Value)}(r:KV kvs vs):(!vs.isEmpty)=!kvs.isEmpty:=by
 cases r<;>rfl
theorem isEmpty_of {xs:List V}{its:List Value}(r:Vals xs its):(!its.toArray.isEmpty)=!xs.isEmpty:=by
 cases r<;>simp
theorem line63:(sizeLine:Nat)<2 ^ 63:=by rw[sizeLine_eq];decide
theorem tru_ok:TruR X (fun x H Q=>∃k,TruV X.K x H k∧Q k H):=by
 intro pins s σ H x v Q I rx h
 obtain⟨k,e,q⟩:=h
 have hl:=line63
 have hs:sizeLine=16777216:=sizeLine_eq
 cases x with
 | non=>
  cases rx
  have e':k=false:=e
  subst e'
  exact truthy_none ⟨H,I,q⟩
 | bl b=>
  cases rx
  have e':k=b:=e
  subst e'
  exact wpAny_truthy_bool ⟨H,I,q⟩
 | int i=>
  obtain⟨t,rfl⟩:=rx
  have e':k=(i != 0):=e
  subst e'
  exact PySem.P.truthy_int ⟨H,I,q⟩
 | str y=>
  obtain⟨t,rfl⟩:=rx
  obtain⟨hy,e'⟩:y.length≤sizeLine∧k=((y.length:Int) != 0):=e
  subst e'
  exact PySem.P.truthy_str (by omega) ⟨H,I.tok _,q⟩
 | byt y=>
  obtain⟨t,rfl⟩:=rx
  obtain⟨hy,e'⟩:y.size≤sizeLine∧k=((y.size:Int) != 0):=e
  subst e'
  exact PySem.W.truthy_bytes (by omega) ⟨H,I.tok _,q⟩
 | ref p=>
  cases rx
  have e':(∃xs,SqL X.K H p xs∧k=!xs.isEmpty)∨(∃xs,SqT X.K H p xs∧k=!xs.isEmpty)∨∃kvs,H p=some (.dK kvs)∧k=!kvs.isEmpty:=e
  rcases e' with⟨xs,hx,e'⟩|⟨xs,hx,e'⟩|⟨kvs,hx,e'⟩
  ·subst e'
   obtain⟨its,r,pl,hz⟩:=I.list hx
   have hlen:=r.length
   exact wpAny_truthy_list pl.isList (by simp only[List.size_toArray];omega) ⟨H,I.tok _,by rw[isEmpty_of r];exact q⟩
  ·subst e'
   obtain⟨its,r,pl,hz⟩:=I.tuple hx
   have hlen:=r.length
   exact truthy_tuple pl (by simp only[List.size_toArray];omega) ⟨H,I.tok _,by rw[isEmpty_of r];exact q⟩
  ·subst e'
   obtain⟨hz,hS,vs,r,m⟩:kvs.length≤sizeLine∧(p == sysModules)=false∧∃vs,KV kvs vs∧s.heap.DictOf (mixKind X.prog X.w) p vs:=I.hok p _ hx
   have hlen:kvs.length=vs.length:=Paired.length r
   exact wpAny_truthy_dict hS m (by omega) ⟨H,I.tok _,by rw[isEmpty_kv r];exact q⟩
 | _=>exact(show False from e).elim
theorem op_add_str:OpR X (binaryOp .Add) (fun x y H Q=>∃i j,x=.str i∧y=.str j∧i.length+j.length≤sizeLine∧Q (.str (i++j)) H):=by
 intro pins s σ H x y v u Q I rx ry h
 obtain⟨i,j,rfl,rfl,hz,q⟩:=h
 obtain⟨t,rfl⟩:=rx
 obtain⟨t',rfl⟩:=ry
 exact add_str (fun t' tk=>⟨.str (i++j),H,I.tok _,⟨_,rfl⟩,q⟩) hz
theorem vals1 {x:V}{us:List Value}(r:Vals [x] us):∃u,us=[u]∧RelV x u:=by
 cases r with
 | cons r1 r2=>cases r2;exact⟨_,rfl,r1⟩
theorem vals2 {x y:V}{us:List Value}(r:Vals [x,y] us):∃u w',us=[u,w']∧RelV x u∧RelV y w':=by
 cases r with
 | cons r1 r2=>
  cases r2 with
  | cons r3 r4=>cases r4;exact⟨_,_,rfl,r1,r3⟩
theorem call_max2 (hc:X.calm=true):CallR X (.builtin "max") (fun xs H Q=>∃i j,xs=[.int i,.int j]∧Q (.int (if j>i then j else i)) H):=by
 intro pins s σ H xs us Q I r h
 obtain⟨i,j,rfl,q⟩:=h
 obtain⟨u,w',rfl,⟨t,rfl⟩,⟨t',rfl⟩⟩:=vals2 r
 refine max_two_ints (I.ok.hd hc) fun h' tk k=>⟨_,H,I.kept k,?_,q⟩
 by_cases hj:j>i
 ·rw[if_pos hj,if_pos hj];exact⟨_,rfl⟩
 ·rw[if_neg hj,if_neg hj];exact⟨_,rfl⟩
theorem call_min2 (hc:X.calm=true):CallR X (.builtin "min") (fun xs H Q=>∃i j,xs=[.int i,.int j]∧Q (.int (if j<i then j else i)) H):=by
 intro pins s σ H xs us Q I r h
 obtain⟨i,j,rfl,q⟩:=h
 obtain⟨u,w',rfl,⟨t,rfl⟩,⟨t',rfl⟩⟩:=vals2 r
 refine min_two_ints (I.ok.hd hc) fun h' tk k=>⟨_,H,I.kept k,?_,q⟩
 by_cases hj:j<i
 ·rw[if_pos hj,if_pos hj];exact⟨_,rfl⟩
 ·rw[if_neg hj,if_neg hj];exact⟨_,rfl⟩
def LenV (K:PySem.W.Frag)(x:V)(H:Hp)(n:Nat):Prop:=
 match x with
 | .str y=>y.length≤sizeLine∧n=y.length
 | .byt y=>y.size≤sizeLine∧n=y.size
 | .ref p=>(∃xs,SqL K H p xs∧n=xs.length)∨∃xs,SqT K H p xs∧n=xs.length
 | _=>False
theorem call_len:CallR X (.builtin "len") (fun xs H Q=>∃x n,xs=[x]∧LenV X.K x H n∧Q (.int n) H):=by
 intro pins s σ H xs us Q I r h
 obtain⟨x,n,rfl,e,q⟩:=h
 obtain⟨u,rfl,rx⟩:=vals1 r
 have hl:=line63
 have hs:sizeLine=16777216:=sizeLine_eq
 cases x with
 | str y=>
  obtain⟨t,rfl⟩:=rx
  obtain⟨hy,e'⟩:y.length≤sizeLine∧n=y.length:=e
  subst e'
  exact len_str (by omega) ⟨.int _,H,I.tok _,⟨_,rfl⟩,q⟩
 | byt y=>
  obtain⟨t,rfl⟩:=rx
  obtain⟨hy,e'⟩:y.size≤sizeLine∧n=y.size:=e
  subst e'
  exact PySem.W.len_bytes (by omega) ⟨.int _,H,I.tok _,⟨_,rfl⟩,q⟩
 | ref p=>
  cases rx
  have e':(∃xs,SqL X.K H p xs∧n=xs.length)∨∃xs,SqT X.K H p xs∧n=xs.length:=e
  rcases e' with⟨xs,hx,e'⟩|⟨xs,hx,e'⟩
  ·subst e'
   obtain⟨its,r',pl,hz⟩:=I.list hx
   have hlen:=r'.length
   exact Calls.call_len_list pl.isList (by simp only[List.size_toArray];omega) ⟨.int xs.length,H,I.tok _,⟨_,by simp only[List.size_toArray];rw[hlen]⟩,q⟩
  ·subst e'
   obtain⟨its,r',pl,hz⟩:=I.tuple hx
   have hlen:=r'.length
   exact len_tuple pl (by simp only[List.size_toArray];omega) ⟨.int xs.length,H,I.tok _,⟨_,by simp only[List.size_toArray];rw[hlen]⟩,q⟩
 | _=>exact(show False from e).elim
end
structure ObjM (h:Heap)(x dx C:Addr)(mA:Str→Option Value):Prop where
 obj:h.get? x=some (PySem.W.instObj C dx)
 ns:h.Ns1 dx mA
 ne:dx≠x
theorem lookIn_ns {h:Heap}{dx:Addr}{mA:Str→Option Value}(n:h.Ns1 dx mA):∃od,h.get? dx=some od∧∀name,PySem.W.lookIn name od=some (mA name):=by
 obtain⟨o,es,ep,ho,hd,hk,_,hm⟩:=n
 refine⟨o,ho,fun name=>?_⟩
 have e:=hm name
 unfold nsFind findBy at e
 rw[←Array.find?_toList]at e
 unfold PySem.W.lookIn
 rw[hd]
 dsimp only
 split
 ·rename_i y q
  rw[q]at e
  exact congrArg some e
 ·rename_i q
  rw[q]at e
  have a:es.toList.any (·.refKey)=false:=by
   rw[List.any_eq_false]
   intro y hy
   obtain⟨z,t,hkey⟩:=hk y (Array.mem_toList_iff.mp hy)
   simp[DictEntry.refKey,hkey]
  have a':¬es.toList.any (·.refKey)=true:=by rw[a];exact Bool.false_ne_true
  rw[if_neg a']
  exact congrArg some e
theorem ObjM.look {h:Heap}{x dx C:Addr}{mA:Str→Option Value}(I:ObjM h x dx C mA):∃od,PySem.W.InstAt h x (PySem.W.instObj C dx) C (some od)∧∀name,PySem.W.lookIn name od=some (mA name):=
 let ⟨od,ho,hl⟩:=lookIn_ns I.ns
 ⟨od,⟨I.obj,rfl,rfl,ho⟩,hl⟩
section
variable {prog:Program}{w:World}{A:Around}{E:Value→Shared→Prop}{s:Shared}{K:PySem.W.Frag}{x dx C f:Addr}{mA:Str→Option Value}{name:Str}{v:Value}
end
def putF (f:Str)(v:V):List (Str×V)→List (Str×V)
 | []=>[(f,v)]
 | (g,x)::r=>if g=f then (g,v)::r else (g,x)::putF f v r
theorem lookup_putF (f g:Str)(v:V):∀fs:List (Str×V),(putF f v fs).lookup g=if g=f then some v else fs.lookup g
 | []=>by
  show List.lookup g [(f,v)]=_
  by_cases h:g=f
  ·have hb:(g == f)=true:=beq_iff_eq.mpr h
   simp only[List.lookup,hb,if_pos h]
  ·have hb:(g == f)=false:=beq_eq_false_iff_ne.mpr h
   simp only[List.lookup,hb,if_neg h]
 | (k,x)::r=>by
  have ih:=lookup_putF f g v r
  rw[show putF f v ((k,x)::r)=(if k=f then (k,v)::r else (k,x)::putF f v r) from rfl]
  by_cases hk:k=f
  ·rw[if_pos hk]
   by_cases h:g=k
   ·have hb:(g == k)=true:=beq_iff_eq.mpr h
    simp only[List.lookup,hb,if_pos (h.trans hk)]
   ·have hb:(g == k)=false:=beq_eq_false_iff_ne.mpr h
    simp only[List.lookup,hb,if_neg (fun e:g=f=>h (e.trans hk.symm))]
  ·rw[if_neg hk]
   by_cases h:g=k
   ·have hb:(g == k)=true:=beq_iff_eq.mpr h
    simp only[List.lookup,hb,if_neg (fun e:g=f=>hk (h.symm.trans e))]
   ·have hb:(g == k)=false:=beq_eq_false_iff_ne.mpr h
    simp only[List.lookup,hb]
    exact ih
theorem keys_putF (f:Str)(v:V):∀fs:List (Str×V),f∈(putF f v fs).map (·.1)∧∀g,g∈fs.map (·.1)→g∈(putF f v fs).map (·.1)
 | []=>⟨by simp[putF],fun g h=>by simp at h⟩
 | (k,x)::r=>by
  obtain⟨i1,i2⟩:=keys_putF f v r
  rw[show putF f v ((k,x)::r)=(if k=f then (k,v)::r else (k,x)::putF f v r) from rfl]
  by_cases hk:k=f
  ·rw[if_pos hk]
   subst hk
   exact⟨by simp,fun g h=>by simpa using h⟩
  ·rw[if_neg hk]
   refine⟨?_,fun g h=>?_⟩
   ·rw[List.map_cons]
    exact List.mem_cons_of_mem _ i1
   ·rw[List.map_cons]at h ⊢
    rcases List.mem_cons.mp h with e | e
    ·exact List.mem_cons.mpr (.inl e)
    ·exact List.mem_cons_of_mem _ (i2 g e)
theorem length_putF (f:Str)(v:V):∀fs:List (Str×V),(putF f v fs).length≤fs.length+1
 | []=>by simp[putF]
 | (k,x)::r=>by
  have ih:=length_putF f v r
  rw[show putF f v ((k,x)::r)=(if k=f then (k,v)::r else (k,x)::putF f v r) from rfl]
  by_cases hk:k=f
  ·rw[if_pos hk,List.length_cons,List.length_cons];omega
  ·rw[if_neg hk,List.length_cons,List.length_cons];omega
theorem RelO.some_of {v:V}{o:Option Value}(r:RelO (some v) o):∃u,o=some u∧RelV v u:=by
 cases o with
 | none=>exact(show False from r).elim
 | some u=>exact⟨u,rfl,r⟩
theorem handed_of {v:V}{u:Value}(r:RelV v u):PySem.W.handedIn u=true:=by
 cases v with
 | non=>cases (show u=Value.none from r);rfl
 | bl b=>cases (show u=Value.bool b from r);rfl
 | int i=>obtain⟨t,e⟩:=(show ∃t,u=Value.int i t from r);cases e;rfl
 | str x=>obtain⟨t,e⟩:=(show ∃t,u=Value.str x t from r);cases e;rfl
 | byt b=>obtain⟨t,e⟩:=(show ∃t,u=Value.bytes b t from r);cases e;rfl
 | flt b=>obtain⟨t,e⟩:=(show ∃t,u=Value.float b t from r);cases e;rfl
 | ref a=>cases (show u=Value.ref a from r);rfl
 | ty n=>cases (show u=Value.type n from r);rfl
section
variable {P:Program}{w:World}{H H':Hp}{h h':Heap}{a C dx:Addr}{fs fs':List (Str×V)}
theorem ins_get (hok:HOk P w H h)(e:H a=some (.ins C dx fs)):∃mA,ObjM h a dx C mA∧(∀f,RelO (fs.lookup f) (mA f))∧PySem.Within mA (fs.map (·.1))∧fs.length≤1000∧H dx=some (.own a):=by
 obtain⟨d,z,ne,ob,mA,n,r,q⟩:=(show ObjOk P w H h a (.ins C dx fs) from hok a _ e)
 exact⟨mA,⟨ob,n,ne⟩,r,q,z,d⟩
end
structure Cls (K:PySem.W.Frag)(C:Addr):Prop where
 pg:PySem.W.plainGet K C Str.empty=true
 hd:PySem.W.hasDictIn K C=true
 po:PySem.W.plainOver K C=true
 sa:PySem.W.findIn K (.ref C) "__setattr__"=some (some (.builtin "object.__setattr__"))
theorem Cls.get {K:PySem.W.Frag}{C:Addr}(c:Cls K C)(f:Str):PySem.W.plainGet K C f=true:=c.pg
def NoAttr (K:PySem.W.Frag)(C:Addr)(f:Str):Prop:=PySem.W.findIn K (.ref C) f=some none
section
variable {X:Cx}{pins:List (Addr×Obj)}{σ:St}{H:Hp}{s:Shared}{a C dx:Addr}{fs:List (Str×V)}{f:Str}{v:V}{A:Around}{E:Value→Shared→Prop}
theorem attr_of {prog:Program}{w:World}{env:Env}{e:Expr}{f:Str}{pos:Pos}{s:Shared}{Q:Value→Shared→Prop}(hb:attributeBase e f env (eval e env)=eval e env)
  (h:wpAny (model prog w) A (eval e env) (fun o s₁=>wpAny (model prog w) A (getAttr o f true) Q E s₁) E s):wpAny (model prog w) A (eval (.Attribute e f pos) env) Q E s:=
 Attribute_any_ h (by rw[arm_eval_Attribute,hb])
end
def tFld (K:PySem.W.Frag)(ta:TE)(f:Str):TE:=fun σ H Q=>ta σ H fun x H1=>∃a C dx fs v,x=.ref a∧H1 a=some (.ins C dx fs)∧Cls K C∧NoAttr K C f∧fs.lookup f=some v∧Q v H1
def sFld (K:PySem.W.Frag)(ta tv:TE)(f:Str):TS:=fun D σ H=>tv σ H fun y H1=>ta σ H1 fun x H2=>∃a C dx fs,x=.ref a∧H2 a=some (.ins C dx fs)∧Cls K C∧NoAttr K C f∧fs.length<1000 ∧
 D.nx σ (upd H2 a (.ins C dx (putF f y fs)))
section
variable {X:Cx}{o e value:Expr}{f:Str}{pos pos' tpos:Pos}{ta tv:TE}
end
section
variable {X:Cx}{pins:List (Addr×Obj)}{σ:St}{H:Hp}{s:Shared}{A:Around}{E:Value→Shared→Prop}{Q:Value→Shared→Prop}{c:Value}{b:Bool}
inductive TyOf (K:PySem.W.Frag) (H:Hp):V→Value→Prop where
 | non:TyOf K H .non (.type "NoneType")
 | bl (x:Bool):TyOf K H (.bl x) (.type "bool")
 | int (i:Int):TyOf K H (.int i) (.type "int")
 | str (x:Str):TyOf K H (.str x) (.type "str")
 | flt (x:UInt64):TyOf K H (.flt x) (.type "float")
 | lst {a:Addr} {xs:List V} (e:H a=some (.lst xs)):TyOf K H (.ref a) (.type "list")
 | frz {a:Addr} {o:Obj} {xs:List V} (e:H a=some (.frz o (.lst xs))):TyOf K H (.ref a) (.type "list")
 | tup {a:Addr} {xs:List V} (e:H a=some (.tup xs)):TyOf K H (.ref a) (.type "tuple")
 | dK {a:Addr} {kvs:List (Key×V)} (e:H a=some (.dK kvs)):TyOf K H (.ref a) (.type "dict")
 | dT {a:Addr} {kvs:List (List Key×V)} (e:H a=some (.dT kvs)):TyOf K H (.ref a) (.type "dict")
 | ins {a C dx:Addr} {fs:List (Str×V)} (e:H a=some (.ins C dx fs)) (cl:Cls K C) (ha:PySem.W.findIn K (.ref C) "__class__"=some (some (.builtin "object.__class__")))
   (hn:PySem.W.specialIn K (.builtin "object.__class__") "__get__"=some (some (.builtin "getset_descriptor.__get__"))) (htk:PySem.W.takesIn K (.builtin "object.__class__")=some true)
   (hm:PySem.W.mroIn K C (.type "object")=some true):TyOf K H (.ref a) (.ref C)
theorem isinst_ok {x:V}{u t:Value}(I:Inv X pins σ H s)(rx:RelV x u)(ty:TyOf X.K H x t)(e:PySem.W.kitOne X.K t c=some b)(h:∀tk,Q (.bool b) { s with toks:=tk }):
  wpAny (model X.prog X.w) A (call (.builtin "isinstance") [u,c]) Q E s:=by
 cases ty with
 | non=>cases (show u=Value.none from rx);exact PySem.W.kia_one PySem.W.kitx_none I.kIn True.intro e (fun z=>nomatch z) h
 | bl y=>cases (show u=Value.bool y from rx);exact PySem.W.kia_one PySem.W.kitx_bool I.kIn True.intro e (fun z=>nomatch z) h
 | int i=>obtain⟨t,q⟩:=(show ∃t,u=Value.int i t from rx);cases q;exact PySem.W.kia_one PySem.W.kitx_int I.kIn True.intro e (fun z=>nomatch z) h
 | str y=>obtain⟨t,q⟩:=(show ∃t,u=Value.str y t from rx);cases q;exact PySem.W.kia_one PySem.W.kitx_str I.kIn True.intro e (fun z=>nomatch z) h
 | flt y=>obtain⟨t,q⟩:=(show ∃t,u=Value.float y t from rx);cases q;exact PySem.W.kia_one PySem.W.kitx_float I.kIn True.intro e (fun z=>nomatch z) h
 | @lst a xs ea=>
  cases (show u=Value.ref a from rx)
  obtain⟨_,_,n,_,h1⟩:=(show ObjOk X.prog X.w H s.heap a (.lst xs) from I.hok a _ ea)
  exact PySem.W.kia_one PySem.W.kitx_list I.kIn ⟨_,h1,rfl⟩ e (fun z=>nomatch z) h
 | @frz a ob xs ea=>
  cases (show u=Value.ref a from rx)
  obtain⟨_,_,_,n,_,h1⟩:=(show ObjOk X.prog X.w H s.heap a (.frz ob (.lst xs)) from I.hok a _ ea)
  exact PySem.W.kia_one PySem.W.kitx_list I.kIn ⟨_,h1,rfl⟩ e (fun z=>nomatch z) h
 | @tup a xs ea=>
  cases (show u=Value.ref a from rx)
  obtain⟨_,_,_,p⟩:=(show ObjOk X.prog X.w H s.heap a (.tup xs) from I.hok a _ ea)
  obtain⟨o,h1,h2,_⟩:=p
  exact PySem.W.kia_one PySem.W.kitx_tuple I.kIn ⟨o,h1,h2⟩ e (fun z=>nomatch z) h
 | @dK a kvs ea=>
  cases (show u=Value.ref a from rx)
  obtain⟨_,_,vs,_,p⟩:=(show ObjOk X.prog X.w H s.heap a (.dK kvs) from I.hok a _ ea)
  obtain⟨o,es,ep,h1,h2,_⟩:=p
  exact PySem.W.kia_one PySem.W.kitx_dict I.kIn ⟨o,h1,h2.1⟩ e (fun z=>nomatch z) h
 | @dT a kvs ea=>
  cases (show u=Value.ref a from rx)
  obtain⟨_,_,xs,_,o,es,ep,h1,h2,_⟩:=(show ObjOk X.prog X.w H s.heap a (.dT kvs) from I.hok a _ ea)
  exact PySem.W.kia_one PySem.W.kitx_dict I.kIn ⟨o,h1,h2.1⟩ e (fun z=>nomatch z) h
 | @ins a C dx fs ea cl ha hn htk hm=>
  cases (show u=Value.ref a from rx)
  obtain⟨mA,O,_⟩:=ins_get I.hok ea
  obtain⟨od,J,_⟩:=O.look
  exact PySem.W.kia_one (PySem.W.kitx_own (cl.get _) cl.hd ha hn htk hm) I.kIn J e (fun z=>nomatch z) h
end
structure Room (k:Nat)(A:Around):Prop where
 hd:A.handled=none
 dp:A.depth+3*k+5<recursionLimit
 un:A.units+16*k+200<cLine
theorem Room.mono {j k:Nat}{A:Around}(r:Room k A)(h:j≤k):Room j A:=⟨r.hd,by have:=r.dp;omega,by have:=r.un;omega⟩
theorem Room.deeper {k:Nat}{A:Around}(r:Room (k+1) A)(env:Env):Room k (A.deeper env):=
 ⟨r.hd,by have:=r.dp;show A.depth+1+3*k+5<_;omega,by have:=r.un;show A.units+3+16*k+200<_;omega⟩
theorem make_depth {A:Around}{C:Addr}{us:List Value}{kw:List (Str×Value)}:(A.under (.builtin "type.__call__" ⟨.ref C::us,kw⟩)).depth=A.depth+1:=by
 first | rfl | simp[Around.under,Code.weight,Code.isCreation,Code.isGuard,Code.isCaller,Code.frames,Code.isFrame,guardIds]
theorem make_units {A:Around}{C:Addr}{us:List Value}{kw:List (Str×Value)}:(A.under (.builtin "type.__call__" ⟨.ref C::us,kw⟩)).units=A.units+1:=by
 first | rfl | simp[Around.under,Code.cUnits,Code.frames,Code.isFrame]
theorem Room.make {k:Nat}{A:Around}(r:Room (k+1) A)(C:Addr)(us:List Value)(kw:List (Str×Value)):Room k (A.under (.builtin "type.__call__" ⟨.ref C::us,kw⟩)):=
 ⟨r.hd,by have:=r.dp;rw[make_depth];omega,by have:=r.un;rw[make_units];omega⟩
theorem Room.depth {k:Nat}{A:Around}(r:Room k A):A.depth<recursionLimit:=by have:=r.dp;omega
theorem Room.units {k:Nat}{A:Around}(r:Room k A):A.units+64<cLine:=by have:=r.un;omega
def tNil:TA:=fun _ H Q=>Q [] H
def tCons (ta:TE)(tr:TA):TA:=fun σ H Q=>ta σ H fun x H1=>tr σ H1 fun xs H2=>Q (x::xs) H2
section
variable {X:Cx}{e:Expr}{es:List Expr}{te:TE}{t:TA}{pos:Pos}
theorem pa_nil:PA X [] tNil:=fun _ _ _ _ H Q I h=>Calls.spliced_nil ⟨[],H,I,.nil,h⟩
theorem pa_cons (ha:PE X e te)(hr:PA X es t)(hs:starEach (e::es) X.env=(false,eval e X.env)::starEach es X.env:=by rfl):PA X (e::es) (tCons te t):=by
 intro pos pins s σ H Q I h
 rw[hs]
 show wpAny _ _ (spliced ((false,eval e X.env)::backTo pos (starEach es X.env))) _ _ s
 refine Calls.spliced_cons (thn (ha pins s σ H _ I h) fun u s1 ⟨x,H1,I1,r1,q1⟩=>?_)
 exact thn (hr pos pins s1 σ H1 _ I1 q1) fun us s2 ⟨xs,H2,I2,r2,q2⟩=>⟨x::xs,H2,I2,.cons r1 r2,q2⟩
def tTup (t:TA):TE:=fun σ H Q=>t σ H fun xs H1=>xs.length≤sizeLine∧∀p,H1 p=none→Q (.ref p) (upd H1 p (.tup xs))
def tLst (t:TA):TE:=fun σ H Q=>t σ H fun xs H1=>xs.length≤sizeLine∧∀p,H1 p=none→Q (.ref p) (upd H1 p (.lst xs))
theorem pe_tup {x1}(h:PA X es t):PE X (.Tuple es x1 pos) (tTup t):=by
 intro pins s σ H Q I hq
 refine wpAny_Tuple_spliced (thn (h pos pins s σ H _ I hq) fun us s1 ⟨xs,H1,I1,r,z,q⟩=>⟨by rw[←r.length];exact z,?_⟩)
 have hf:H1 s1.heap.objs.size=none:=I1.hok.fresh (Nat.le_refl _)
 refine⟨.ref s1.heap.objs.size,upd H1 s1.heap.objs.size (.tup xs),I1.laid (t':=s1.toks) (fun b u e=>Heap.get?_push_of_some _ e) (Nat.le_refl _) ?_,rfl,q _ hf⟩
 exact⟨z,us,r,⟨_,Heap.get?_push_size _ rfl,rfl,_,rfl⟩⟩
theorem pe_lst (h:PA X es t):PE X (.List es pos) (tLst t):=by
 intro pins s σ H Q I hq
 refine wpAny_List_spliced (thn (h pos pins s σ H _ I hq) fun us s1 ⟨xs,H1,I1,r,z,q⟩=>⟨by rw[←r.length];exact z,?_⟩)
 have hf:H1 s1.heap.objs.size=none:=I1.hok.fresh (Nat.le_refl _)
 refine⟨.ref s1.heap.objs.size,upd H1 s1.heap.objs.size (.lst xs),I1.laid (t':=s1.toks) (fun b u e=>Heap.get?_push_of_some _ e) (Nat.le_refl _) ?_,rfl,q _ hf⟩
 exact⟨z,us,0,r,Heap.get?_push_size _ rfl⟩
end
abbrev Sp:=List V→Hp→VK→XK→Prop
abbrev CXT:=List Env→Hp→Shared→XK→Value→Shared→Prop
structure Env0 (P:Program)(w:World)(K:PySem.W.Frag)(mg:Str→Option Value)(base:Heap)(A:Around)(outer:List Env)(s:Shared)(H:Hp):Prop where
 frames:A.frames=some outer
 mod:Mod K mg base
 bs:∀b o,base.get? b=some o→s.heap.get? b=some o∧H b=none
 bsz:base.objs.size≤s.heap.objs.size
 funs:s.heap.FunFrames base outer
 frf:∀b∈frs outer,H b=none
 hok:HOk P w H s.heap
 bare:AllBare s.gens
def CE (outer:List Env)(P:Program)(w:World)(H:Hp)(s:Shared)(Q:VK)(u:Value)(s':Shared):Prop:=
 ∃v H',s'.os=s.os∧AllBare s'.gens∧Un (frs outer) [] H H' s.heap s'.heap∧HOk P w H' s'.heap∧RelV v u∧Q v H'
def CR (CX:CXT)(outer:List Env)(P:Program)(w:World)(H:Hp)(s:Shared)(Q:VK)(E:XK)(r:Result)(s':Shared):Prop:=
 match r with
 | .ok (.ret u)=>CE outer P w H s Q u s'
 | .ok _=>False
 | .error e=>CX outer H s E e s'
structure FnOk (P:Program)(w:World)(K:PySem.W.Frag)(mg:Str→Option Value)(base:Heap)(CX:CXT)(k:Nat)(f:Addr)(fd:FuncData)(ps:List Str)(sp:Sp):Prop where
 len:∀vs H Q E,sp vs H Q E→vs.length=ps.length
 run:∀(A:Around) (outer:List Env) (s:Shared) (H:Hp) (args:Args) (us:List Value) (vs:List V) (Q:VK) (E:XK),Room k A→Env0 P w K mg base A outer s H→BindsTo s fd args (ps.zip us)→Vals vs us→sp vs H Q E →
  codeAny (model P w) A (.call (.ref f) args) (CR CX outer P w H s Q E) s
theorem Env0.make {P:Program}{w:World}{K:PySem.W.Frag}{mg:Str→Option Value}{base:Heap}{A:Around}{outer:List Env}{s:Shared}{H:Hp}(e:Env0 P w K mg base A outer s H)(C:Addr)(us:List Value)(kw:List (Str×Value)):
  Env0 P w K mg base (A.under (.builtin "type.__call__" ⟨.ref C::us,kw⟩)) outer s H:=⟨by first | exact e.frames | (simpa [Around.under,Code.envs,Code.isFrame,pushEnvs] using e.frames),e.mod,e.bs,e.bsz,e.funs,e.frf,e.hok,e.bare⟩
section
variable {X:Cx}{pins:List (Addr×Obj)}{σ:St}{H:Hp}{s s':Shared}
theorem Inv.env0 (I:Inv X pins σ H s):Env0 X.prog X.w X.K X.mg X.base X.A X.stack s H:=
 ⟨I.ok.frames,I.ok.mod,I.bs,Nat.le_trans I.ok.bsz I.sz,I.stack,I.stkFree,I.hok,I.bare⟩
theorem Inv.after {Q:VK}{u:Value}(I:Inv X pins σ H s)(h:CE X.stack X.prog X.w H s Q u s'):EP X pins σ Q u s':=by
 obtain⟨v,H',os,bare,un,hok,r,q⟩:=h
 obtain⟨hh,g,d,t,os'⟩:=s'
 obtain rfl:os'=s.os:=os
 exact⟨v,H',I.call (h':=hh) (g':=g) (d':=d) (t':=t) (ch:=[]) un hok bare (fun b z=>absurd z (by simp)),r,q⟩
end
def tCall (sp:Sp)(dvs:List V)(E:XK)(t:TA):TE:=fun σ H Q=>t σ H fun vs H1=>sp (vs++dvs) H1 Q E
def tMeth (C:Addr)(m:Str)(sp:Sp)(dvs:List V)(E:XK)(ta:TE)(t:TA):TE:=fun σ H Q=>ta σ H fun x H1=>∃a dx fs,x=.ref a∧H1 a=some (.ins C dx fs)∧fs.lookup m=none ∧
 t σ H1 fun vs H2=>sp (x::(vs++dvs)) H2 Q E
def tMake (C:Addr)(sp:Sp)(dvs:List V)(E:XK)(t:TA):TE:=fun σ H Q=>t σ H fun vs H1=>∀x dx,H1 x=none→H1 dx=none→dx≠x →
 sp (.ref x::(vs++dvs)) (upd (upd H1 dx (.own x)) x (.ins C dx [])) (fun v H2=>v=.non∧Q (.ref x) H2) E
def Binds (K:PySem.W.Frag)(fd:FuncData)(ps:List Str)(ds:List Value):Prop:=
 ∀(s:Shared) (us:List Value),K.In s.heap→(us++ds).length=ps.length→BindsTo s fd ⟨us,[]⟩ (ps.zip (us++ds))
theorem Binds.all {K:PySem.W.Frag}{fd:FuncData}{ps:List Str}(h:∀us:List Value,us.length=ps.length→bindArgs fd ⟨us,[]⟩=pure (ps.zip us)):Binds K fd ps []:=fun s us _ hl=>by
 rw[List.append_nil]at hl ⊢
 exact .of_eq (h us hl)
def Passes (CX:CXT)(X:Cx)(E:XK):Prop:=∀(pins:List (Addr×Obj)) (σ:St) (H:Hp) (s:Shared) (e:Value) (s':Shared),Inv X pins σ H s→CX X.stack H s E e s'→X.xe e s'
section
variable {X:Cx}{CX:CXT}{k:Nat}{f C:Addr}{fd:FuncData}{ps:List Str}{sp:Sp}{dvs:List V}{ds:List Value}{E:XK}{x m:Str}{p pos apos:Pos}{e o:Expr}{es:List Expr}{ta:TE}{t:TA}
theorem run_fn {pins:List (Addr×Obj)}{σ:St}{H:Hp}{s:Shared}{Q:VK}{us:List Value}{vs:List V}(F:FnOk X.prog X.w X.K X.mg X.base CX k f fd ps sp)(hr:Room k X.A)(hb:Binds X.K fd ps ds)(hd:Vals dvs ds)(hx:Passes CX X E)
  (I:Inv X pins σ H s) (r:Vals vs us) (h:sp (vs++dvs) H Q E):wpAny (model X.prog X.w) X.A (call (.ref f) us) (EP X pins σ Q) X.xe s:=by
 have r2:Vals (vs++dvs) (us++ds):=r.append hd
 have hl:(us++ds).length=ps.length:=by rw[←r2.length];exact F.len _ _ _ _ h
 refine wpAny_call (codeAny_mono (F.run X.A X.stack s H ⟨us,[]⟩ (us++ds) (vs++dvs) Q E hr I.env0 (hb s us I.kIn hl) r2 h) fun r s' hq=>?_)
 cases r with
 | error e=>exact hx pins σ H s e s' I hq
 | ok fl=>
  cases fl with
  | ret u=>exact I.after hq
  | next=>exact False.elim hq
  | brk=>exact False.elim hq
  | cont=>exact False.elim hq
theorem pe_call (F:FnOk X.prog X.w X.K X.mg X.base CX k f fd ps sp)(hr:Room k X.A)(hg:Gl X x)(hm:X.mg x=some (.ref f))(hk:PySem.W.keepIn X.K (.ref f)=true)(hb:Binds X.K fd ps ds)(hd:Vals dvs ds)(hx:Passes CX X E)
  (ha:PA X (e::es) t) (hdb:(x == ("__debug__":Str))=false:=by decide) (he:starEach (e::es) X.env=(false,eval e X.env)::starEach es X.env:=by rfl) (hpl:(backTo pos (starEach es X.env)).any (·.1)=false:=by rfl):
  PE X (.Call (.Name x p) (e::es) [] pos) (tCall sp dvs E t):=by
 intro pins s σ H Q I h
 refine wpAny_Call_Name_kw (ld_glob I hg hm ?_ hdb)
 refine PySem.W.callWith_K (h₀:=X.base) I.ok.mod.kin hk (thn (ha pos pins s σ H _ I h) fun us s1 ⟨vs,H1,I1,r,q⟩=>⟨I1.kIn,?_⟩) he hpl
 exact run_fn F hr hb hd hx I1 r q
end
section
variable {X:Cx}{CX:CXT}{k:Nat}{f C:Addr}{fd:FuncData}{ps ks:List Str}{sp:Sp}{E:XK}{x m:Str}{p pos apos kpos:Pos}{e o:Expr}{es:List Expr}{kws:List Keyword}{te ta:TE}{t tk:TA}{nm:Option Str}
variable {g:List Value→List Value→List Value}{gV:List V→List V→List V}
end
structure FnScope (N P:List Str)(sc:Scope):Prop where
 kind:sc.kind=.function
 co:sc.isCoroutine=false
 gen:sc.isGenerator=false
 nd:N.Nodup
 pre:N.take P.length=P
 par:∀x∈P,sc.names.lookup x=some .local∨sc.names.lookup x=some .cell
 nofree:∀y∈sc.names,y.2≠.free
theorem bindL_out {kindOf:Str→Option NameKind}{x:Str}:∀ {binds:List (Str×Value)} {m:Str→Option Value},(∀v,(x,v)∉binds)→bindL kindOf binds m x=m x
 | [],_,_=>rfl
 | (n,v)::r,m,h=>by
  unfold bindL
  rw[bindL_out fun w hw=>h w (List.mem_cons_of_mem _ hw)]
  split
  ·have:x≠n:=by rintro rfl;exact h v List.mem_cons_self
   simp[this]
  ·rfl
theorem bindC_out {kindOf:Str→Option NameKind}{x:Str}:∀ {binds:List (Str×Value)} {m:Str→Option Value},(∀v,(x,v)∉binds)→bindC kindOf binds m x=m x
 | [],_,_=>rfl
 | (n,v)::r,m,h=>by
  unfold bindC
  rw[bindC_out fun w hw=>h w (List.mem_cons_of_mem _ hw)]
  split
  ·rfl
  ·have:x≠n:=by rintro rfl;exact h v List.mem_cons_self
   simp[this]
theorem bindL_get {kindOf:Str→Option NameKind}{x:Str}{v:Value}:∀ {P:List Str} {vs:List Value} {i:Nat} {m:Str→Option Value},P.Nodup→P[i]?=some x→vs[i]?=some v→kindOf x=some .local →
  bindL kindOf (P.zip vs) m x=some v
 | [],_,_,_,_,h,_,_=>by simp at h
 | _::_,[],_,_,_,_,h,_=>by simp at h
 | p::P,w::vs,0,m,nd,h1,h2,hk=>by
  simp at h1 h2;subst h1;subst h2
  show bindL kindOf ((p,w)::P.zip vs) m p=_
  unfold bindL
  rw[bindL_out fun v hv=>(List.nodup_cons.mp nd).1 (List.of_mem_zip hv).1,if_pos hk]
  simp
 | p::P,w::vs,i+1,m,nd,h1,h2,hk=>by
  show bindL kindOf ((p,w)::P.zip vs) m x=_
  unfold bindL
  exact bindL_get (i:=i) (List.nodup_cons.mp nd).2 (by simpa using h1) (by simpa using h2) hk
theorem bindC_get {kindOf:Str→Option NameKind}{x:Str}{v:Value}:∀ {P:List Str} {vs:List Value} {i:Nat} {m:Str→Option Value},P.Nodup→P[i]?=some x→vs[i]?=some v→kindOf x≠some .local →
  bindC kindOf (P.zip vs) m x=some v
 | [],_,_,_,_,h,_,_=>by simp at h
 | _::_,[],_,_,_,_,h,_=>by simp at h
 | p::P,w::vs,0,m,nd,h1,h2,hk=>by
  simp at h1 h2;subst h1;subst h2
  show bindC kindOf ((p,w)::P.zip vs) m p=_
  unfold bindC
  rw[bindC_out fun v hv=>(List.nodup_cons.mp nd).1 (List.of_mem_zip hv).1,if_neg hk]
  simp
 | p::P,w::vs,i+1,m,nd,h1,h2,hk=>by
  show bindC kindOf ((p,w)::P.zip vs) m x=_
  unfold bindC
  exact bindC_get (i:=i) (List.nodup_cons.mp nd).2 (by simpa using h1) (by simpa using h2) hk
def start (N:List Str)(vs:List V):St:=vs.map some++List.replicate (N.length-vs.length) none
def cxOf (CX:CXT)(P:Program)(w:World)(K:PySem.W.Frag)(mg:Str→Option Value)(base:Heap)(N:List Str)(qual:Str)(scope:Scope)(f:Addr)(cd:Value)(A:Around)(outer:List Env)(s:Shared)(H:Hp)(E:XK):Cx where
 prog:=P
 w:=w
 K:=K
 mg:=mg
 base:=base
 A:=A.deeper (envOfC qual scope s.heap.objs.size f cd)
 N:=N
 s₀:=s
 H₀:=H
 env:=envOfC qual scope s.heap.objs.size f cd
 outer:=outer
 stack:=envOfC qual scope s.heap.objs.size f cd::outer
 ex:=[]
 calm:=true
 fn:=fun _=>true
 pn:=[]
 xe:=fun e s'=>wpAny (model P w) (A.deeper (envOfC qual scope s.heap.objs.size f cd)) (leaving (envOfC qual scope s.heap.objs.size f cd) e) (fun _ s''=>CX outer H s E e s'') (fun e' s''=>CX outer H s E e' s'') s'
theorem cell_has {sc:Scope}{n:Nat}{x:Str}(h:sc.names.lookup x=some .cell):∃c,(cellsFrom n sc.names []).lookup x=some c:=by
 have q:=PySem.W.cellsFrom_some sc.names n [] (.inl h)
 exact Option.isSome_iff_exists.mp q
theorem inv_start {CX:CXT}{P:Program}{w:World}{K:PySem.W.Frag}{mg:Str→Option Value}{base:Heap}{N ps:List Str}{qual:Str}{scope:Scope}{f:Addr}{cd:Value}{A:Around}{outer:List Env}{s s1:Shared}{H:Hp}{E:XK}{us:List Value}{vs:List V}
  (S:FnScope N ps scope) (hd:A.handled=none) (e0:Env0 P w K mg base A outer s H) (hl:vs.length=ps.length) (r:Vals vs us)
  (x:InCallC s s.heap.objs.size (bindL (envOfC qual scope s.heap.objs.size f cd).kindOf (ps.zip us) fun _=>none) (cellsFrom (s.heap.objs.size+1) scope.names []) (bindC (envOfC qual scope s.heap.objs.size f cd).kindOf (ps.zip us) fun _=>none) s1):
  Inv (cxOf CX P w K mg base N qual scope f cd A outer s H E) [] (start N vs) H s1:=by
 have hpl:ps.length≤N.length:=by have:=congrArg List.length S.pre;rw[List.length_take]at this;omega
 obtain⟨h1,tk,rfl,hk⟩:=x.done
 have noA:∀b:Addr,b∉(cxOf CX P w K mg base N qual scope f cd A outer s H E).ex:=fun b z=>absurd (show b∈([]:List Addr) from z) (by simp)
 refine⟨⟨e0.mod,S.kind,rfl,rfl,Nat.le_refl _,fun y z c h1 h2=>?_,fun y hy=>?_,fun y c _ h=>?_,fun _=>hd,Around.frames_deeper e0.frames,.inr ⟨rfl,rfl⟩,fun b z=>absurd z (noA b),e0.bs,e0.bsz,fun b _ _=>noA b,fun b z=>absurd z (noA b),e0.funs,e0.frf⟩,
  rfl,e0.bare,Un.kept hk,⟨_,x.toInCall.ns,fun i y v h1 h2 h3=>?_⟩,fun y c h=>⟨_,x.cell y c h⟩,e0.hok.fresh (Nat.le_refl _),fun y c h=>?_,fun p hp=>absurd (show p∈([]:List (Addr×Obj)) from hp) (by simp),e0.hok.kept hk,?_⟩
 ·exact name_of_addr x.apart (PySem.mem_of_lookup h1) (PySem.mem_of_lookup h2)
 ·have hy:scope.names.lookup y=some .cell∨scope.names.lookup y=some .free:=hy
  rcases hy with hy | hy
  ·exact cell_has hy
  ·exact absurd rfl (S.nofree _ (PySem.mem_of_lookup hy))
 ·exact Nat.le_of_lt (x.above y c (PySem.mem_of_lookup h))
 ·have hi:i<vs.length:=by
   unfold start at h2
   by_cases hi:i<vs.length
   ·exact hi
   ·rw[List.getElem?_append_right (by simpa using hi)]at h2
    rw[List.getElem?_replicate]at h2
    split at h2<;>cases h2
  have ha:vs[i]?=some v:=by
   unfold start at h2
   rw[List.getElem?_append_left (by simpa using hi),List.getElem?_map]at h2
   cases e:vs[i]? with
   | none=>rw[e]at h2;cases h2
   | some a=>rw[e]at h2;cases h2;rfl
  obtain⟨u,hu,rv⟩:=r.get ha
  have hp:ps[i]?=some y:=by
   rw[←S.pre,List.getElem?_take_of_lt (by omega)];exact h1
  have ndP:ps.Nodup:=by rw[←S.pre];exact S.nd.sublist (List.take_sublist _ _)
  refine⟨u,rv,?_⟩
  rcases S.par y (List.mem_of_getElem? hp) with k | k
  ·exact .inl ⟨k,bindL_get ndP hp hu k⟩
  ·obtain⟨c,e⟩:=cell_has (n:=s.heap.objs.size+1) k
   refine .inr ⟨.inl k,c,e,?_⟩
   have q:=x.cell y c e
   rw[bindC_get ndP hp hu (by show scope.names.lookup y≠_;rw[k];decide)]at q
   exact q
 ·exact e0.hok.fresh (Nat.le_of_lt (x.above y c (PySem.mem_of_lookup h)))
 ·unfold start
  show _=N.length
  rw[List.length_append,List.length_map,List.length_replicate]
  omega
theorem fn_of {CX:CXT}{P:Program}{w:World}{K:PySem.W.Frag}{mg:Str→Option Value}{base:Heap}{k:Nat}{f:Addr}{name qual:Str}{params:Arguments}{body:List Stmt}{scope:Scope}{dV kV doc pm cdv ct oc:Value}{an od:Option Addr}
  {osl:Array (Option Value)} {N ps:List Str} {sp:Sp} (lk:K.lookup f=some ⟨oc,od,.func (PySem.W.fnOf name qual params body scope dV kV doc pm an cdv ct),osl⟩) (hcd:PySem.W.codeIn K cdv qual=true) (S:FnScope N ps scope)
  (len:∀vs H Q E,sp vs H Q E→vs.length=ps.length)
  (hbody:∀(A:Around) (outer:List Env) (s:Shared) (H:Hp) (vs:List V) (Q:VK) (E:XK),Room k (A.deeper (envOfC qual scope s.heap.objs.size f cdv))→sp vs H Q E →
   ∃t,PSs (cxOf CX P w K mg base N qual scope f cdv A outer s H E) body t∧t { nx:=fun _ H'=>Q .non H',rt:=Q } (start N vs) H):
  FnOk P w K mg base CX (k+1) f (PySem.W.fnOf name qual params body scope dV kV doc pm an cdv ct) ps sp:=by
 refine⟨len,fun A outer s H args us vs Q E hr e0 hb r hsp=>?_⟩
 have hl:=len _ _ _ _ hsp
 have KX:K.In s.heap:=e0.mod.kin.keeps fun b o e=>(e0.bs b o e).1
 have lim:s.heap.NoLimit:=e0.mod.nolimit.keeps fun b o e=>(e0.bs b o e).1
 have hkind:∀y∈ps.zip us,scope.names.lookup y.1=some .local∨(scope.names.lookup y.1=some .cell∧((cellsFrom (s.heap.objs.size+1) scope.names []).lookup y.1).isSome=true):=fun ⟨n,v⟩ hy=>by
  rcases S.par n (List.of_mem_zip hy).1 with q | q
  ·exact .inl q
  ·exact .inr ⟨q,PySem.W.cellsFrom_some _ _ _ (.inl q)⟩
 refine codeAny_call_function hr.depth (KX _ _ lk) rfl S.co S.gen rfl (PySem.W.codeRec_of KX hcd) (hb _ _ _ _ ?_)
 refine wpAny_newFunctionEnv_cells S.kind hkind fun env he s1 x=>?_
 subst he
 refine⟨lim.keeps x.toInCall.keep,codeAny_func ?_⟩
 obtain⟨t,ht,hq⟩:=hbody A outer s H vs Q E (hr.deeper _) hsp
 have I:Inv (cxOf CX P w K mg base N qual scope f cdv A outer s H E) [] (start N vs) H s1:=inv_start S hr.hd e0 hl r x
 refine wpAny_mono (ht [] s1 (start N vs) H _ I hq) (fun fl s' hs=>?_) fun e s' hs=>hs
 have fin:∀ {σ':St} {H':Hp} {v:V} {u:Value},Inv (cxOf CX P w K mg base N qual scope f cdv A outer s H E) [] σ' H' s'→RelV v u→Q v H'→CE outer P w H s Q u s':=
  fun {σ' H' v u} J rv q=>⟨v,H',J.os,J.bare,J.base,J.hok,rv,q⟩
 cases fl with
 | ret u=>
  obtain⟨v,σ',H',J,rv,q⟩:=hs
  exact fin J rv q
 | next=>
  obtain⟨σ',H',J,q⟩:=hs
  exact fin (v:=V.non) (u:=Value.none) J rfl q
 | brk=>
  obtain⟨_,_,_,q⟩:=hs
  exact False.elim q
 | cont=>
  obtain⟨_,_,_,q⟩:=hs
  exact False.elim q
section
variable {X:Cx}{x:Str}{p pos:Pos}{e:Expr}{es:List Expr}{t:TA}{id T:String}{r:List V→Hp→VK→Prop}
def tCB (r:List V→Hp→VK→Prop)(t:TA):TE:=fun σ H Q=>t σ H fun vs H1=>r vs H1 Q
theorem pe_callB (hc:CallR X (.builtin id) r) (hg:Gl X x) (hm:X.mg x=none) (hv:bootBuiltins x=some (.builtin id)) (ha:PA X (e::es) t) (hn:x≠"__name__":=by decide) (hdb:(x == ("__debug__":Str))=false:=by decide)
  (he:starEach (e::es) X.env=(false,eval e X.env)::starEach es X.env:=by rfl) (hpl:(backTo pos (starEach es X.env)).any (·.1)=false:=by rfl):PE X (.Call (.Name x p) (e::es) [] pos) (tCB r t):=by
 intro pins s σ H Q I h
 refine wpAny_Call_Name_kw (ld_blt I hg hm hv ?_ hn hdb)
 exact PyProof.Rows.callWith_builtin1 (thn (ha pos pins s σ H _ I h) fun us s1 ⟨vs,H1,I1,r1,q1⟩=>hc pins s1 σ H1 vs us Q I1 r1 q1) he hpl
theorem pe_callTy (hc:CallR X (.type T) r) (hg:Gl X x) (hm:X.mg x=none) (hv:bootBuiltins x=some (.type T)) (ha:PA X (e::es) t) (hn:x≠"__name__":=by decide) (hdb:(x == ("__debug__":Str))=false:=by decide)
  (he:starEach (e::es) X.env=(false,eval e X.env)::starEach es X.env:=by rfl) (hpl:(backTo pos (starEach es X.env)).any (·.1)=false:=by rfl):PE X (.Call (.Name x p) (e::es) [] pos) (tCB r t):=by
 intro pins s σ H Q I h
 refine wpAny_Call_Name_kw (ld_blt I hg hm hv ?_ hn hdb)
 exact PyProof.Rows.callWith_type1 (thn (ha pos pins s σ H _ I h) fun us s1 ⟨vs,H1,I1,r1,q1⟩=>hc pins s1 σ H1 vs us Q I1 r1 q1) he hpl
end
end L2
namespace HT
open PySem PyProof.Rows
section
open PySem.SeqAt
open PySem.AutoSeq1 (wpAny_loadPart')
open PySem.MeetsSeq PySem.MeetsSeq2 PySem.MeetsSeq3
end
section
variable {prog:Program}{w:World}{A:Around}{E:Value→Shared→Prop}{s:Shared}
def sIx (n d:Nat):Option Int→Nat
 | none=>d
 | some v=>if v<0 then (v+(n:Int)).toNat else min v.toNat n
theorem sIx_none (n d:Nat):sIx n d none=d:=rfl
theorem sIx_nat (n d k:Nat):sIx n d (some (k:Int))=min k n:=by
 show (if (k:Int)<0 then ((k:Int)+(n:Int)).toNat else min (k:Int).toNat n)=min k n
 rw[if_neg (by omega),Int.toNat_natCast]
theorem sIx_le (n d:Nat)(hd:d≤n)(o:Option Int):sIx n d o≤n:=by
 cases o with
 | none=>exact hd
 | some v=>
  show (if v<0 then (v+(n:Int)).toNat else min v.toNat n)≤n
  by_cases hv:v<0
  ·rw[if_pos hv];omega
  ·rw[if_neg hv];exact Nat.min_le_right _ _
theorem clip_eq (v:Int)(n d:Nat):(if v<0 then max (v+(n:Int)) 0 else min v (n:Int))=((sIx n d (some v):Nat):Int):=by
 show (if v<0 then max (v+(n:Int)) 0 else min v (n:Int))=(((if v<0 then (v+(n:Int)).toNat else min v.toNat n):Nat):Int)
 by_cases hv:v<0
 ·simp only[if_pos hv];omega
 ·simp only[if_neg hv];omega
end
end HT
namespace L2
open PySem PySem.Spec PyProof.Rows
abbrev TO:=St→Hp→(Option Int→Hp→Prop)→Prop
def PO (X:Cx)(e:Option Expr)(t:TO):Prop:=
 ∀(pins:List (Addr×Obj)) (s:Shared) (σ:St) (H:Hp) (Q:Option Int→Hp→Prop),Inv X pins σ H s→t σ H Q →
  wpAny (model X.prog X.w) X.A (evalPart e X.env) (fun u s'=>∃o H',Inv X pins σ H' s'∧IsPart u o∧Q o H') X.xe s
def tNoPart:TO:=fun _ H Q=>Q none H
def tPart (t:TE):TO:=fun σ H Q=>t σ H fun x H1=>∃i,x=.int i∧Q (some i) H1
section
variable {X:Cx}{e:Expr}{te:TE}{lo hi:Option Expr}{tl th:TO}{pos p2:Pos}
theorem po_none:PO X none tNoPart:=by
 intro pins s σ H Q I h
 rw[evalPart_none]
 exact wpAny_pure ⟨none,H,I,.none,h⟩
theorem po_some (h:PE X e te):PO X (some e) (tPart te):=by
 intro pins s σ H Q I hw
 rw[evalPart_some]
 refine thn (h pins s σ H _ I hw) fun u s1 ⟨x,H1,I1,r1,q1⟩=>?_
 obtain⟨i,rfl,q⟩:=q1
 obtain⟨t,rfl⟩:=r1
 exact⟨some i,H1,I1,.int i t,q⟩
def SlR (X:Cx)(r:V→Option Int→Option Int→Hp→VK→Prop):Prop:=
 ∀(pins:List (Addr×Obj)) (s:Shared) (σ:St) (H:Hp) (x:V) (v vl vu:Value) (lo hi:Option Int) (sl:Addr) (Q:VK),Inv X pins σ H s→RelV x v→s.heap.IsSliceOf sl vl vu .none→IsPart vl lo→IsPart vu hi→r x lo hi H Q →
  ∃T id,typeLookup (.type T) "__getitem__"=pure (some (.builtin id))∧s.TypeIs v T∧wpAny (model X.prog X.w) X.A (getItem v (.ref sl)) (EP X pins σ Q) X.xe s
def tSl (r:V→Option Int→Option Int→Hp→VK→Prop)(te:TE)(tl th:TO):TE:=fun σ H Q=>te σ H fun x H1=>tl σ H1 fun l H2=>th σ H2 fun u H3=>r x l u H3 Q
theorem pe_slice {r:V→Option Int→Option Int→Hp→VK→Prop}(hr:SlR X r)(he:PE X e te)(hl:PO X lo tl)(hu:PO X hi th):PE X (.Subscript e (.Slice lo hi none p2) pos) (tSl r te tl th):=by
 intro pins s σ H Q I h
 refine Subscript_ (thn (he pins s σ H _ I h) fun v s1 ⟨x,H1,I1,r1,q1⟩=>?_)
 refine wpAny_Slice (thn (hl pins s1 σ H1 _ I1 q1) fun vl s2 ⟨l,H2,I2,pl,q2⟩=>thn (hu pins s2 σ H2 _ I2 q2) fun vu s3 ⟨u,H3,I3,pu,q3⟩=>?_)
 rw[evalPart_none]
 refine wpAny_pure ?_
 have I4:Inv X pins σ H3 { s3 with heap:=s3.heap.push { cls:=.type "slice",data:=.fields #[vl,vu,.none] } }:=I3.kept (t':=s3.toks) fun b ob q=>Heap.get?_push_of_some _ q
 obtain⟨T,id,hT,ht,hg⟩:=hr pins { s3 with heap:=s3.heap.push { cls:=.type "slice",data:=.fields #[vl,vu,.none] } } σ H3 x v vl vu l u s3.heap.objs.size Q I4 r1 (Heap.IsSliceOf.new ..) pl pu q3
 show wpAny (model X.prog X.w) X.A (subscriptTail e (.Slice lo hi none p2) v (.ref s3.heap.objs.size)) (EP X pins σ Q) X.xe { s3 with heap:=s3.heap.push { cls:=.type "slice",data:=.fields #[vl,vu,.none] } }
 exact tail_any (ops:=[.ref s3.heap.objs.size,v]) ht hT hg (by with_unfolding_all rfl)
def cutV (xs:List V)(lo hi:Option Int):List V:=(xs.drop (HT.sIx xs.length 0 lo)).take (HT.sIx xs.length xs.length hi-HT.sIx xs.length 0 lo)
theorem cutV_length (xs:List V)(lo hi:Option Int):(cutV xs lo hi).length≤xs.length:=by
 unfold cutV
 rw[List.length_take,List.length_drop]
 omega
end
end L2
namespace L2
open PySem PySem.Spec PyProof.Rows
def ixN (n:Nat)(i:Int):Option Nat:=if 0≤i then (if i<n then some i.toNat else none) else if -(n:Int)≤i then some (i+n).toNat else none
def atI {α:Type}(xs:List α)(i:Int):Option α:=(ixN xs.length i).bind fun j=>xs[j]?
theorem ixN_seq {n:Nat}{i:Int}{j:Nat}(h:ixN n i=some j):seqIndex? i n=some j∧j<n∧-(n:Int)≤i∧i<n:=by
 unfold ixN at h
 by_cases h0:0≤i
 ·rw[if_pos h0]at h
  by_cases h1:i<n
  ·rw[if_pos h1]at h
   have e:i.toNat=j:=Option.some.inj h
   exact⟨by rw[seqIndex_of h0 h1,e],by omega,by omega,h1⟩
  ·rw[if_neg h1]at h;cases h
 ·rw[if_neg h0]at h
  by_cases h1:-(n:Int)≤i
  ·rw[if_pos h1]at h
   have e:(i+n).toNat=j:=Option.some.inj h
   exact⟨by rw[seqIndex_neg (by omega) h1,e],by omega,h1,by omega⟩
  ·rw[if_neg h1]at h;cases h
theorem atI_get {α:Type}{xs:List α}{i:Int}{v:α}(h:atI xs i=some v):∃j,seqIndex? i xs.length=some j∧xs[j]?=some v∧j<xs.length∧-(xs.length:Int)≤i∧i<xs.length:=by
 unfold atI at h
 cases e:ixN xs.length i with
 | none=>rw[e]at h;cases h
 | some j=>
  rw[e]at h
  obtain⟨h1,h2,h3,h4⟩:=ixN_seq e
  exact⟨j,h1,h,h2,h3,h4⟩
theorem atI_nat {α:Type}{xs:List α}{j:Nat}{v:α}(h:xs[j]?=some v):atI xs (j:Int)=some v:=by
 have hj:j<xs.length:=(List.getElem?_eq_some_iff.mp h).1
 have e:ixN xs.length (j:Int)=some j:=by
  unfold ixN
  rw[if_pos (by omega),if_pos (by omega)];simp
 unfold atI;rw[e];exact h
def PlainIx (b:Expr):Prop:=∀o i,subscripted b false o i=operate [o,i] (getItem o i)
def IxR (X:Cx)(r:R2):Prop:=
 ∀(value slice:Expr) (pins:List (Addr×Obj)) (s:Shared) (σ:St) (H:Hp) (x y:V) (v u:Value) (Q:VK),Inv X pins σ H s→RelV x v→RelV y u→r x y H Q →
  subscripted slice false v u=operate [v,u] (getItem v u)→wpAny (model X.prog X.w) X.A (subscriptTail value slice v u) (EP X pins σ Q) X.xe s
def MtR (X:Cx)(id:String)(r:V→List V→Hp→VK→Prop):Prop:=
 ∀(pins:List (Addr×Obj)) (s:Shared) (σ:St) (H:Hp) (x:V) (xs:List V) (v:Value) (us:List Value) (Q:VK),Inv X pins σ H s→RelV x v→Vals xs us→r x xs H Q →
  wpAny (model X.prog X.w) X.A (call (.builtin id) (v::us)) (EP X pins σ Q) X.xe s
section
variable {X:Cx}{a b:Expr}{ta tb:TE}{pos:Pos}
theorem pe_ix {r:R2}(hr:IxR X r)(ha:PE X a ta)(hb:PE X b tb)(hs:PlainIx b):PE X (.Subscript a b pos) (tOp r ta tb):=by
 intro pins s σ H Q I h
 exact Subscript_ (binT ha hb I h fun v u s2 x y H2 I2 rx ry q=>hr a b pins s2 σ H2 x y v u Q I2 rx ry q (hs _ _))
def rIxL (K:PySem.W.Frag):R2:=fun x y H Q=>∃p xs i v,x=.ref p∧y=.int i∧SqL K H p xs∧atI xs i=some v∧Q v H
def rIxT (K:PySem.W.Frag):R2:=fun x y H Q=>∃p xs i v,x=.ref p∧y=.int i∧SqT K H p xs∧atI xs i=some v∧Q v H
def rIxS:R2:=fun x y H Q=>∃z i c,x=.str z∧y=.int i∧z.length≤sizeLine∧atI z.cps.toList i=some c∧Q (.str ⟨#[c]⟩) H
theorem ix_list:IxR X (rIxL X.K):=by
 intro value slice pins s σ H x y v u Q I rx ry h hs
 obtain⟨p,xs,i,z,rfl,rfl,hq,he,q⟩:=h
 cases rx
 obtain⟨t,rfl⟩:=ry
 obtain⟨its,r,pl,hz⟩:=I.list hq
 obtain⟨j,h1,h2,h3,h4,h5⟩:=atI_get he
 obtain⟨w,ew,rw'⟩:=r.get h2
 have hl:=r.length
 have hn:=line63
 have fin:EP X pins σ Q w s:=⟨z,H,I,rw',q⟩
 by_cases h0:0≤i
 ·have hj:i.toNat=j:=by
   rw[seqIndex_of h0 h5]at h1
   exact Option.some.inj h1
  exact item_listR pl.isList h0 (by omega) (by rw[hj];simpa using ew) fin hs
 ·have hj:(i+(its.toArray.size:Int)).toNat=j:=by
   rw[seqIndex_neg (by omega) h4]at h1
   rw[List.size_toArray,←hl]
   exact Option.some.inj h1
  exact subscriptTail_builtinR (x:=w) pl.isList.typeIs slot_list_getitem.lookup
   (wpAny_getItem_list_neg (Q:=fun r s'=>r=w∧EP X pins σ Q r s') pl.isList (by omega) (by rw[List.size_toArray]<;>omega) (by omega) (by rw[hj];simpa using ew) ⟨rfl,fin⟩) hs
theorem ix_tup:IxR X (rIxT X.K):=by
 intro value slice pins s σ H x y v u Q I rx ry h hs
 obtain⟨p,xs,i,z,rfl,rfl,hq,he,q⟩:=h
 cases rx
 obtain⟨t,rfl⟩:=ry
 obtain⟨its,r,pl,hz⟩:=I.tuple hq
 obtain⟨j,h1,h2,h3,h4,h5⟩:=atI_get he
 obtain⟨w,ew,rw'⟩:=r.get h2
 have hl:=r.length
 have hn:=line63
 have fin:EP X pins σ Q w s:=⟨z,H,I,rw',q⟩
 exact subscriptTail_builtinR (x:=w) pl.typeIs slot_tuple_getitem.lookup
  (getItem_tuple (j:=j) (Q:=fun r s'=>r=w∧EP X pins σ Q r s') pl (by omega) (by omega) (by rw[List.size_toArray,←hl];exact h1) (by simpa using ew) ⟨rfl,fin⟩) hs
theorem ix_str:IxR X rIxS:=by
 intro value slice pins s σ H x y v u Q I rx ry h hs
 obtain⟨z,i,c,rfl,rfl,hz,he,q⟩:=h
 obtain⟨t,rfl⟩:=rx
 obtain⟨t',rfl⟩:=ry
 obtain⟨j,h1,h2,h3,h4,h5⟩:=atI_get he
 have hl:z.cps.toList.length=z.length:=by simp[Str.length]
 rw[hl]at h1 h4 h5
 have hn:=line63
 exact tail_any (typeIs_str s z t) slot_str_getitem.lookup (getItem_str (c:=c) (by
  have e1:decide (i < -(2 ^ 63:Int))=false:=decide_eq_false (by omega)
  have e2:decide (i≥2 ^ 63)=false:=decide_eq_false (by omega)
  rw[e1,e2,Bool.or_false]) (by rw[h1];simpa using h2) ⟨.str ⟨#[c]⟩,H,I.tok _,⟨_,rfl⟩,q⟩) hs
theorem slice_bounds (lo hi:Option Int)(n:Nat):(sliceBounds lo hi none n).1=((HT.sIx n 0 lo:Nat):Int)∧(sliceBounds lo hi none n).2.1=((HT.sIx n n hi:Nat):Int)∧(sliceBounds lo hi none n).2.2=1:=by
 refine⟨?_,?_,rfl⟩
 ·cases lo with
  | none=>simp[sliceBounds,HT.sIx]
  | some i=>
   simp only[sliceBounds,HT.sIx,Option.getD_none,show (1:Int)>0 by decide,if_true]
   by_cases h:i<0
   ·simp only[h,if_true]<;>omega
   ·simp only[h,if_false]<;>omega
 ·cases hi with
  | none=>simp[sliceBounds,HT.sIx]
  | some i=>
   simp only[sliceBounds,HT.sIx,Option.getD_none,show (1:Int)>0 by decide,if_true]
   by_cases h:i<0
   ·simp only[h,if_true]<;>omega
   ·simp only[h,if_false]<;>omega
theorem slicePick_cut (its:List Value)(lo hi:Option Int):slicePick its.toArray lo hi none=((its.drop (HT.sIx its.length 0 lo)).take (HT.sIx its.length its.length hi-HT.sIx its.length 0 lo)).toArray:=by
 obtain⟨h1,h2,h3⟩:=slice_bounds lo hi its.toArray.size
 unfold slicePick
 rw[h1,h2,h3]
 simp only[sliceRange_one,pick_run,List.size_toArray]<;>rfl
def rSlL (K:PySem.W.Frag):V→Option Int→Option Int→Hp→VK→Prop:=fun x lo hi H Q=>∃a xs,x=.ref a∧SqL K H a xs∧∀p,H p=none→Q (.ref p) (upd H p (.lst (cutV xs lo hi)))
theorem sl_list:SlR X (rSlL X.K):=by
 intro pins s σ H x v vl vu lo hi sl Q I rx hs pl pu h
 obtain⟨a,xs,rfl,hx,q⟩:=h
 cases rx
 obtain⟨its,r,ht,hz⟩:=I.list hx
 have hlen:=r.length
 refine⟨"list",_,slot_list_getitem.lookup,ht.isList.typeIs,?_⟩
 refine wpAny_getItem_list_slice ht.isList hs pl pu .none (by simp) ?_ (by rw[List.size_toArray]<;>omega)
 rw[slicePick_cut,←hlen]
 refine⟨.ref s.heap.objs.size,_,I.laid (t':=s.toks) (o:=.lst (cutV xs lo hi)) (fun b ob q=>Heap.get?_push_of_some _ q) (Nat.le_refl _) ?_,rfl,q _ (I.hok.fresh (Nat.le_refl _))⟩
 exact⟨Nat.le_trans (cutV_length xs lo hi) hz,_,0,(r.drop (HT.sIx xs.length 0 lo)).take (HT.sIx xs.length xs.length hi-HT.sIx xs.length 0 lo),Heap.get?_push_size _ rfl⟩
def flatV:V→Bool
 | .non=>true
 | .bl _=>true
 | .int _=>true
 | .str _=>true
 | _=>false
def eqV:V→V→Bool
 | .non,.non=>true
 | .bl a,.bl b=>a == b
 | .bl a,.int b=>(if a then 1 else 0) == b
 | .int a,.bl b=>a == (if b then 1 else 0)
 | .int a,.int b=>a == b
 | .str a,.str b=>a == b
 | _,_=>false
theorem eqAt_V {A:Around}{s:Shared}{y x:V}{u v:Value}(ry:RelV y u)(rx:RelV x v)(fy:flatV y=true)(fx:flatV x=true):SeqAt.EqAt A s u v (eqV y x):=by
 cases y with
 | non=>
  cases ry
  cases x with
  | non=>cases rx;exact SeqAt.EqAt.same _
  | bl b=>cases rx;exact SeqAt.EqAt.none_bool b
  | int b=>obtain⟨t,rfl⟩:=rx;exact SeqAt.EqAt.none_int b t
  | str b=>obtain⟨t,rfl⟩:=rx;exact SeqAt.EqAt.none_str b t
  | _=>exact absurd (show false=true from fx) Bool.false_ne_true
 | bl a=>
  cases ry
  cases x with
  | non=>cases rx;exact SeqAt.EqAt.bool_none a
  | bl b=>cases rx;exact SeqAt.EqAt.bool_bool a b
  | int b=>obtain⟨t,rfl⟩:=rx;exact SeqAt.EqAt.bool_int a b t
  | str b=>obtain⟨t,rfl⟩:=rx;exact SeqAt.EqAt.bool_str a b t
  | _=>exact absurd (show false=true from fx) Bool.false_ne_true
 | int a=>
  obtain⟨t',rfl⟩:=ry
  cases x with
  | non=>cases rx;exact SeqAt.EqAt.int_none a t'
  | bl b=>cases rx;exact SeqAt.EqAt.int_bool a t' b
  | int b=>obtain⟨t,rfl⟩:=rx;exact SeqAt.EqAt.int_int a t' b t
  | str b=>obtain⟨t,rfl⟩:=rx;exact SeqAt.EqAt.int_str a t' b t
  | _=>exact absurd (show false=true from fx) Bool.false_ne_true
 | str a=>
  obtain⟨t',rfl⟩:=ry
  cases x with
  | non=>cases rx;exact SeqAt.EqAt.str_none a t'
  | bl b=>cases rx;exact SeqAt.EqAt.str_bool a t' b
  | int b=>obtain⟨t,rfl⟩:=rx;exact SeqAt.EqAt.str_int a t' b t
  | str b=>obtain⟨t,rfl⟩:=rx;exact SeqAt.EqAt.str_str a t' b t
  | _=>exact absurd (show false=true from fx) Bool.false_ne_true
 | _=>exact absurd (show false=true from fy) Bool.false_ne_true
def eqU (x:V)(u:Value):Bool:=match u with
 | .none=>eqV .non x
 | .bool b=>eqV (.bl b) x
 | .int i _=>eqV (.int i) x
 | .str z _=>eqV (.str z) x
 | _=>false
theorem eqU_of {x y:V}{u:Value}(r:RelV y u)(f:flatV y=true):eqU x u=eqV y x:=by
 cases y with
 | non=>cases r;rfl
 | bl b=>cases r;rfl
 | int i=>obtain⟨t,rfl⟩:=r;rfl
 | str z=>obtain⟨t,rfl⟩:=r;rfl
 | _=>exact absurd (show false=true from f) Bool.false_ne_true
theorem any_eqU {x:V}:∀ {xs:List V} {us:List Value},Vals xs us→xs.all flatV=true→us.any (eqU x)=xs.any fun y=>eqV y x
 | _,_,.nil,_=>rfl
 | y::xs,u::us,.cons r t,f=>by
  rw[List.all_cons,Bool.and_eq_true]at f
  rw[List.any_cons,List.any_cons,eqU_of r f.1,any_eqU t f.2]
theorem mem_eqAt {A:Around}{s:Shared}{x:V}{v:Value}(rx:RelV x v)(fx:flatV x=true):∀ {xs:List V} {us:List Value},Vals xs us→xs.all flatV=true→∀u∈us,SeqAt.EqAt A s u v (eqU x u)
 | _,_,.nil,_=>fun u hu=>by cases hu
 | y::xs,u::us,.cons r t,f=>fun u' hu=>by
  rw[List.all_cons,Bool.and_eq_true]at f
  rcases List.mem_cons.mp hu with rfl | hu
  ·rw[eqU_of r f.1];exact eqAt_V r rx f.1 fx
  ·exact mem_eqAt rx fx t f.2 u' hu
def inV (x:V)(xs:List V):Bool:=xs.any fun y=>eqV y x
def rIn (K:PySem.W.Frag)(neg:Bool):R2:=fun x y H Q=>∃p xs,y=.ref p∧(SqL K H p xs∨SqT K H p xs)∧flatV x=true∧xs.all flatV=true∧Q (.bl (if neg then !inV x xs else inV x xs)) H
theorem op_notIn_seq:OpR X (compareOp .NotIn) (rIn X.K true):=by
 intro pins s σ H x y v u Q I rx ry h
 obtain⟨p,xs,rfl,hq,fx,fs,q⟩:=h
 cases ry
 rcases hq with hq | hq
 ·obtain⟨its,r,pl,hz⟩:=I.list hq
  refine SeqAt.notIn_listAt (eqU x) pl.isList (fun w hw=>mem_eqAt rx fx r fs w (by simpa using hw)) ⟨.bl _,H,I,rfl,?_⟩
  rw[show its.toArray.any (eqU x)=its.any (eqU x) by simp,any_eqU r fs]
  exact q
 ·obtain⟨its,r,pl,hz⟩:=I.tuple hq
  refine SeqAt.notIn_tupleAt (eqU x) pl (fun w hw=>mem_eqAt rx fx r fs w (by simpa using hw)) ⟨.bl _,H,I,rfl,?_⟩
  rw[show its.toArray.any (eqU x)=its.any (eqU x) by simp,any_eqU r fs]
  exact q
theorem call_list_of:CallR X (.type "list") (fun xs H Q=>∃p ys,xs=[.ref p]∧(SqL X.K H p ys∨SqT X.K H p ys)∧∀l,H l=none→Q (.ref l) (upd H l (.lst ys))):=by
 intro pins s σ H xs us Q I r h
 obtain⟨p,ys,rfl,hq,q⟩:=h
 obtain⟨u,rfl,rx⟩:=vals1 r
 cases rx
 have fin:∀(its:List Value),Vals ys its→ys.length≤sizeLine→∀(h':Heap) (c':Nat),(∀b o',s.heap.get? b=some o'→h'.get? b=some o') →
   h'.get? s.heap.objs.size=some { cls:=.type "list",dict:=none,data:=.seq its.toArray c',slots:=#[] }→EP X pins σ Q (.ref s.heap.objs.size) { s with heap:=h' }:=fun its r' hz h' c' kp e=>
  ⟨.ref s.heap.objs.size,_,I.laid (t':=s.toks) kp (Nat.le_refl _) (show ObjOk X.prog X.w _ h' _ (.lst ys) from⟨hz,its,c',r',e⟩),rfl,q _ (I.hok.fresh (Nat.le_refl _))⟩
 rcases hq with hq | hq
 ·obtain⟨its,r',pl,hz⟩:=I.list hq
  have hlen:=r'.length
  obtain⟨o,ho,hc,n,hd⟩:=pl.isList
  exact call_list_seq p (.inl rfl) ho hc hd (fun h' c' kp e=>fin its r' hz h' c' kp e) (by simp only[List.size_toArray]<;>omega)
 ·obtain⟨its,r',pl,hz⟩:=I.tuple hq
  have hlen:=r'.length
  obtain⟨o,ho,hc,n,hd⟩:=pl
  exact call_list_seq p (.inr rfl) ho hc hd (fun h' c' kp e=>fin its r' hz h' c' kp e) (by simp only[List.size_toArray]<;>omega)
theorem call_tuple_of:CallR X (.type "tuple") (fun xs H Q=>∃p ys,xs=[.ref p]∧((SqL X.K H p ys∧∀l,H l=none→Q (.ref l) (upd H l (.tup ys)))∨(SqT X.K H p ys∧Q (.ref p) H))):=by
 intro pins s σ H xs us Q I r h
 obtain⟨p,ys,rfl,h⟩:=h
 obtain⟨u,rfl,rx⟩:=vals1 r
 cases rx
 rcases h with⟨hq,q⟩|⟨hq,q⟩
 ·obtain⟨its,r',pl,hz⟩:=I.list hq
  have hlen:=r'.length
  refine call_tuple_list pl.isList (fun h' kp=>?_) (by simp only[List.size_toArray]<;>omega)
  have I1:Inv X pins σ H { s with heap:=h' }:=I.kept (t':=s.toks) kp
  have I2:Inv X pins σ (upd H h'.objs.size (.tup ys)) { s with heap:=h'.push { cls:=.type "tuple",data:=.seq its.toArray } }:=
   I1.laid (t':=s.toks) (fun b o e=>Heap.get?_push_of_some _ e) (Nat.le_refl _) (show ObjOk X.prog X.w _ _ _ (.tup ys) from⟨hz,its,r',IsTup.new _ _⟩)
  exact⟨.ref h'.objs.size,_,I2,rfl,q _ (I1.hok.fresh (Nat.le_refl _))⟩
 ·obtain⟨its,r',pl,hz⟩:=I.tuple hq
  exact call_tuple_same pl ⟨.ref p,H,I,rfl,q⟩
def tyV (K:PySem.W.Frag)(T:String)(x:V)(H:Hp):Prop:=match x with
 | .str _=>T="str"
 | .int _=>T="int"
 | .ref p=>(T="list"∧∃xs,SqL K H p xs)∨(T="tuple"∧∃o,K.lookup p=some o∧o.cls=.type "tuple"∧o.dict=none) ∨
   (T="dict"∧((∃kvs,H p=some (.dK kvs))∨∃kvs,H p=some (.dT kvs)))∨(T="set"∧∃S n,H p=some (.set S n))
 | _=>False
theorem tyV_is {pins:List (Addr×Obj)}{σ:St}{H:Hp}{s:Shared}{T:String}{x:V}{v:Value}(I:Inv X pins σ H s)(r:RelV x v)(ty:tyV X.K T x H):
  s.TypeIs v T∧∀a,v=.ref a→∃ob,s.heap.get? a=some ob∧ob.dict=none:=by
 cases x with
 | str z=>
  obtain⟨t,rfl⟩:=r
  cases (show T="str" from ty)
  exact⟨typeIs_str s z t,fun _ e=>nomatch e⟩
 | int i=>
  obtain⟨t,rfl⟩:=r
  cases (show T="int" from ty)
  exact⟨typeIs_int s i t,fun _ e=>nomatch e⟩
 | ref p=>
  cases r
  rcases ty with⟨rfl,xs,hq⟩|⟨rfl,o,hk,hc,hd⟩|⟨rfl,hk⟩|⟨rfl,S,n,hk⟩
  ·obtain⟨its,_,pl,_⟩:=I.list hq
   refine⟨pl.isList.typeIs,fun a e=>?_⟩
   cases e
   obtain⟨o,n,e,c,hd,_⟩:=pl
   exact⟨o,e,hd⟩
  ·refine⟨⟨o,I.kIn p o hk,hc⟩,fun a e=>?_⟩
   cases e
   exact⟨o,I.kIn _ o hk,hd⟩
  ·have z:∃o,s.heap.get? p=some o∧o.ExactDict:=by
    rcases hk with⟨kvs,hk⟩|⟨kvs,hk⟩
    ·obtain⟨_,_,_,_,o,_,_,e,ex,_⟩:=I.hok p _ hk
     exact⟨o,e,ex⟩
    ·obtain⟨_,_,_,_,o,_,_,e,ex,_⟩:=I.hok p _ hk
     exact⟨o,e,ex⟩
   obtain⟨o,e,ex⟩:=z
   refine⟨⟨o,e,ex.1⟩,fun a e2=>?_⟩
   cases e2
   exact⟨o,e,ex.2.1⟩
  ·obtain⟨o,_,_,_,e,ex,_⟩:=I.hok p _ hk
   refine⟨⟨o,e,ex.1⟩,fun a e2=>?_⟩
   cases e2
   exact⟨o,e,ex.2.1⟩
 | _=>exact False.elim ty
def tBM0 (K:PySem.W.Frag)(T:String)(r:V→List V→Hp→VK→Prop)(to:TE):TE:=fun σ H Q=>to σ H fun x H1=>tyV K T x H1∧r x [] H1 Q
def tBM (K:PySem.W.Frag)(T:String)(r:V→List V→Hp→VK→Prop)(to:TE)(t:TA):TE:=fun σ H Q=>to σ H fun x H1=>tyV K T x H1∧t σ H1 fun xs H2=>r x xs H2 Q
variable {o e:Expr}{es:List Expr}{to:TE}{t:TA}{name:Str}{apos cpos:Pos}{T id:String}{r:V→List V→Hp→VK→Prop}
theorem pe_bm0 (pa:PlainAttrs T) (slot:Slot T name id) (hty:typeOf (.builtin id)=pure (.type "method_descriptor")) (hm:MtR X id r) (ho:PE X o to)
  (hbase:attributeBase o name X.env (eval o X.env)=eval o X.env:=by rfl) (hline:(apos.endLine == cpos.line)=true:=by rfl):PE X (.Call (.Attribute o name apos) [] [] cpos) (tBM0 X.K T r to):=by
 intro pins s σ H Q I h
 refine wpAny_Call_method0_late hbase hline (thn (ho pins s σ H _ I h) fun v s1 ⟨x,H1,I1,r1,ty,q1⟩=>?_)
 obtain⟨h1,h2⟩:=tyV_is I1 r1 ty
 exact⟨T,id,pa,slot,hty,h1,h2,Calls.callWith_builtin rfl (PySem.evalArgs_none (hm pins s1 σ H1 x [] v [] Q I1 r1 .nil q1))⟩
theorem pe_bm (pa:PlainAttrs T) (slot:Slot T name id) (hty:typeOf (.builtin id)=pure (.type "method_descriptor")) (hm:MtR X id r) (ho:PE X o to) (ha:PA X (e::es) t)
  (hbase:attributeBase o name X.env (eval o X.env)=eval o X.env:=by rfl)
  (hfew:((backTo cpos (starEach (e::es) X.env)).all (fun x=>!x.1)&&(backToKw cpos (keywordEach [] X.env)).all (fun x=>x.1.isSome)
   && decide ((e::es).length+([]:List Keyword).length+(if ([]:List Keyword).isEmpty then 0 else 1)<30))=true:=by rfl)
  (hline:(apos.endLine == cpos.line)=true:=by rfl) (hs:starEach (e::es) X.env=(false,eval e X.env)::starEach es X.env:=by rfl) (hplain:(backTo cpos (starEach es X.env)).any (·.1)=false:=by rfl):
  PE X (.Call (.Attribute o name apos) (e::es) [] cpos) (tBM X.K T r to t):=by
 intro pins s σ H Q I h
 refine wpAny_Call_method_late hbase hfew hline rfl (thn (ho pins s σ H _ I h) fun v s1 ⟨x,H1,I1,r1,ty,q1⟩=>?_)
 obtain⟨h1,h2⟩:=tyV_is I1 r1 ty
 refine⟨T,id,pa,slot,hty,h1,h2,?_⟩
 have hA:=ha cpos pins s1 σ H1 _ I1 q1
 rw[hs]at hA ⊢
 refine Calls.callWith_builtin (by show (false || (backTo cpos (starEach es X.env)).any (·.1))=false;rw[hplain]<;>rfl) (Calls.evalArgs_plain ?_)
 exact thn hA fun us s2 ⟨vs,H2,I2,r2,q2⟩=>hm pins s2 σ H2 x vs v us Q I2 r1 r2 q2
end
def MtM (X:Cx)(id:String)(r:V→List V→Hp→VK→Prop):Prop:=
 ∀(pins:List (Addr×Obj)) (s:Shared) (σ:St) (H:Hp) (x:V) (xs:List V) (v:Value) (us:List Value) (Q:VK),Inv X pins σ H s→RelV x v→Vals xs us→r x xs H Q →
  wpAny (model X.prog X.w) X.A (call (.builtin id) (v::us)) (EP X pins σ Q) X.xe s
theorem Vals.one:∀ {x:V} {us:List Value},Vals [x] us→∃u,us=[u]∧RelV x u
 | _,_,.cons r .nil=>⟨_,rfl,r⟩
theorem Vals.two:∀ {x y:V} {us:List Value},Vals [x,y] us→∃u v,us=[u,v]∧RelV x u∧RelV y v
 | _,_,_,.cons r (.cons q .nil)=>⟨_,_,rfl,r,q⟩
theorem Vals.eraseIdx:∀ {xs:List V} {us:List Value} (i:Nat),Vals xs us→Vals (xs.eraseIdx i) (us.eraseIdx i)
 | _,_,_,.nil=>.nil
 | _,_,0,.cons _ t=>t
 | _,_,i+1,.cons r t=>.cons r (Vals.eraseIdx i t)
theorem len_erase {α:Type}:∀(l:List α) (i:Nat),(l.eraseIdx i).length≤l.length
 | [],_=>Nat.le_refl _
 | _::_,0=>Nat.le_succ _
 | _::r,i+1=>Nat.succ_le_succ (len_erase r i)
section
variable {X:Cx}{pins:List (Addr×Obj)}{σ:St}{H:Hp}{s:Shared}{l b:Addr}{xs ys zs:List V}
theorem Inv.lset {its its':List Value}{n:Nat}{f:Array Value→Array Value}{t':Nat}(I:Inv X pins σ H s)(hH:H l=some (.lst xs))
  (e:s.heap.get? l=some { cls:=.type "list",data:=.seq its.toArray n }) (hf:f its.toArray=its'.toArray) (hv:Vals ys its') (hz:ys.length≤sizeLine):
  Inv X pins σ (upd H l (.lst ys)) { s with heap:=s.heap.update l (Obj.mapSeq f),toks:=t' }:=by
 have q:=PySem.IsL.update e f
 rw[hf]at q
 refine I.write (x:=l) (e:=l) (by rw[hH];exact trivial) (.inl rfl) (fun b' u hb hu=>(Heap.get?_update_other s.heap (Obj.mapSeq f) (Ne.symm hb)).trans hu) ⟨_,q⟩ ?_
 exact⟨hz,its',_,hv,q⟩
theorem Inv.lnew {its:List Value}{t':Nat}(I:Inv X pins σ H s)(hv:Vals ys its)(hz:ys.length≤sizeLine):
  Inv X pins σ (upd H s.heap.objs.size (.lst ys)) { s with heap:=s.heap.push { cls:=.type "list",data:=.seq its.toArray },toks:=t' }:=
 I.laid (fun _ _ q=>Heap.get?_push_of_some _ q) (Nat.le_refl _) ⟨hz,its,0,hv,Heap.get?_push_size _ rfl⟩
theorem Inv.fresh (I:Inv X pins σ H s):H s.heap.objs.size=none:=I.hok.fresh (Nat.le_refl _)
theorem Inv.lstM (I:Inv X pins σ H s)(hH:H l=some (.lst xs)):xs.length≤sizeLine∧∃(its:List Value) (n:Nat),Vals xs its∧xs.length=its.length∧s.heap.get? l=some { cls:=.type "list",data:=.seq its.toArray n }:=by
 obtain⟨z,its,n,r,e⟩:=I.hok l _ hH
 exact⟨z,its,n,r,r.length,e⟩
theorem notLongL {n:Nat}(h:n≤sizeLine):Builtin.List.listTooLong n=false:=by
 unfold Builtin.List.listTooLong
 exact decide_eq_false (by omega)
end
section
variable {X:Cx}
def rAppend:V→List V→Hp→VK→Prop:=fun x vs H Q=>∃l xs y,x=.ref l∧vs=[y]∧H l=some (.lst xs)∧xs.length<sizeLine∧Q .non (upd H l (.lst (xs++[y])))
theorem mt_append:MtM X "list.append" rAppend:=by
 intro pins s σ H x vs v us Q I rx rv h
 obtain⟨l,xs,y,rfl,rfl,hH,hz,q⟩:=h
 cases rx
 obtain⟨u,rfl,ru⟩:=rv.one
 obtain⟨z,its,n,r,hl,e⟩:=I.lstM hH
 refine call_meets F.slot_list_append ⟨_,e,rfl⟩ F.entry_list_append (F.args_list_append_2 _ _) (PySem.list_append l its.toArray n u (by rw[List.size_toArray];omega)) ⟨e,?_⟩
 refine⟨.non,_,I.lset (its':=its++[u]) hH e (by simp) (r.append (.cons ru .nil)) ?_,rfl,q⟩
 rw[List.length_append,List.length_singleton]
 omega
def rExtend:V→List V→Hp→VK→Prop:=fun x vs H Q=>∃l b xs zs,x=.ref l∧vs=[.ref b]∧H l=some (.lst xs)∧H b=some (.lst zs)∧xs.length+zs.length≤sizeLine∧Q .non (upd H l (.lst (xs++zs)))
theorem mt_extend:MtM X "list.extend" rExtend:=by
 intro pins s σ H x vs v us Q I rx rv h
 obtain⟨l,b,xs,zs,rfl,rfl,hH,hB,hz,q⟩:=h
 cases rx
 obtain⟨u,rfl,ru⟩:=rv.one
 cases ru
 obtain⟨z,its,n,r,hl,e⟩:=I.lstM hH
 obtain⟨z2,its2,n2,r2,hl2,e2⟩:=I.lstM hB
 have hsz:its.toArray.size+its2.toArray.size≤sizeLine:=by rw[List.size_toArray,List.size_toArray];omega
 have hlong:¬(!its.toArray.isEmpty&&Builtin.List.listTooLong (its.toArray.size+its2.toArray.size))=true:=by
  rw[notLongL hsz,Bool.and_false]
  exact Bool.false_ne_true
 refine call_meets F.slot_list_extend ⟨_,e,rfl⟩ F.entry_list_extend (F.args_list_extend_2 _ _)
  (AutoSeq1.list_extend_list_list_0 l its.toArray n b its2.toArray n2 hlong (by rw[List.size_toArray];omega) (by omega)) ⟨e,e2,?_⟩
 refine⟨.non,_,I.lset (its':=its++its2) hH e (by simp) (r.append r2) ?_,rfl,q⟩
 rw[List.length_append]
 omega
def rPopAt:V→List V→Hp→VK→Prop:=fun x vs H Q=>∃l xs i k y,x=.ref l∧vs=[.int i]∧H l=some (.lst xs)∧-(2 ^ 63)≤i∧i<2 ^ 63∧seqIndex? i xs.length=some k∧xs[k]?=some y∧Q y (upd H l (.lst (xs.eraseIdx k)))
theorem mt_popAt:MtM X "list.pop" rPopAt:=by
 intro pins s σ H x vs v us Q I rx rv h
 obtain⟨l,xs,i,k,y,rfl,rfl,hH,h1,h2,hk,hy,q⟩:=h
 cases rx
 obtain⟨u,rfl,ru⟩:=rv.one
 obtain⟨t,rfl⟩:=ru
 obtain⟨z,its,n,r,hl,e⟩:=I.lstM hH
 obtain⟨w,hw,rw'⟩:=r.get hy
 refine call_meets F.slot_list_pop ⟨_,e,rfl⟩ F.entry_list_pop (F.args_list_pop_2 _ _)
  (MeetsSeq.list_pop_at l its.toArray n i t k w (fitsIndex_both h1 h2) (by rw[List.size_toArray,←hl];exact hk) (by rw[←Array.getElem?_toList];exact hw) (by rw[List.size_toArray];omega)) ⟨e,?_⟩
 refine⟨y,_,I.lset (its':=its.eraseIdx k) hH e ?_ (r.eraseIdx k) ?_,rw',q⟩
 ·show its.toArray.eraseIdxIfInBounds k=(its.eraseIdx k).toArray
  rw[List.eraseIdxIfInBounds_toArray]
 ·have:=len_erase xs k
  omega
def rCat:R2:=fun x y H Q=>∃l b xs zs,x=.ref l∧y=.ref b∧H l=some (.lst xs)∧H b=some (.lst zs)∧xs.length+zs.length≤sizeLine∧∀p,H p=none→Q (.ref p) (upd H p (.lst (xs++zs)))
theorem op_cat:OpR X (binaryOp .Add) rCat:=by
 intro pins s σ H x y v u Q I rx ry h
 obtain⟨l,b,xs,zs,rfl,rfl,hH,hB,hz,q⟩:=h
 cases rx
 cases ry
 obtain⟨z,its,n,r,hl,e⟩:=I.lstM hH
 obtain⟨z2,its2,n2,r2,hl2,e2⟩:=I.lstM hB
 refine PySem.P.add_list e e2 ?_ (by rw[List.size_toArray,List.size_toArray];omega)
 have ea:its.toArray++its2.toArray=(its++its2).toArray:=by simp
 rw[ea]
 exact⟨.ref _,_,I.lnew (t':=s.toks) (r.append r2) (by rw[List.length_append];omega),rfl,q _ I.fresh⟩
end
section
variable {prog:Program}{w:World}{A:Around}{E:Value→Shared→Prop}{s:Shared}
end
section
variable {X:Cx}
end
end L2
namespace Att
open PySem PySem.W PySem.Calls PyProof.Rows
theorem ints_of_wellAll {P:Params}{h:Heap}:∀(ns:List Int) (vs:List Value),WellAll P h vs (ns.map WData.int)→IntsAre vs ns:=by
 intro ns
 induction ns with
 | nil=>
  intro vs w
  rw[List.map_nil]at w
  cases w
  exact .nil
 | cons n ns ih=>
  intro vs w
  rw[List.map_cons]at w
  cases w with
  | cons a b=>
   cases a
   exact .cons _ _ (ih _ b)
theorem script_of {l:OpenLaw}{n:Nat}(hn:l.most=some n){P:Params}{h:Heap}{args:List WData}{vals:List Value}
  (hpre:l.row.toRowW.claim.pre args=true) (hwl:WellAll P h vals args):
  ∃a vs ns,vals=[Value.ref a]∧args=[WData.list (ns.map WData.int)]∧h.get? a=some { cls:=.type "list",data:=.seq vs.toArray }∧IntsAre vs ns∧ns.length≤n:=by
 have hsh:WShape.hasAll [] args [.list .int]=true:=(pre_splitW hpre).1
 have hc:l.pre.holds [] { args:=args }=true:=(pre_splitW hpre).2
 obtain⟨d,r,rfl,h1,h2⟩:=hasAllW_cons hsh
 obtain rfl:=hasAllW_nil h2
 obtain⟨xs,rfl,h3⟩:=hasW_list h1
 obtain⟨ns,rfl⟩:=items_int h3
 have hlen:ns.length≤n:=by
  unfold OpenLaw.pre at hc
  have h4:(WTm.not (.lt (.lit (.int (n:Int))) (.len (.arg 0)))).holds [] { args:=[.list (ns.map .int)] }=true:=by
   have h4:=(holds_andW hc).1
   rw[hn]at h4
   exact h4
  have h5:=condW_of h4 (w_not (w_lt w_lit (w_len_list (w_arg rfl))))
  rw[List.length_map]at h5
  refine Nat.le_of_not_lt fun q=>?_
  have q':(n:Int)<((ns.length:Nat):Int):=by omega
  first
   | (rw[decide_eq_true q']at h5;exact absurd h5 (by decide))
   | (simp at h5;omega)
 cases hwl with
 | cons w1 w2=>
  cases w2
  cases w1 with
  | list ho hall=>exact⟨_,_,ns,rfl,rfl,ho,ints_of_wellAll ns _ hall,hlen⟩
theorem post_true (l:OpenLaw)(args:List WData):l.row.toRowW.claim.post args (.bool true) args=true:=
 postW_of (r:=l.row.toRowW) (X:=(true == true))
  (show WShape.has [] (.bool true) .bool=true by first | rfl | decide | simp[WShape.has,WShape.arms,WShape.armsAll])
  (show (WTm.eq .res (.lit (.bool true))).value [] { args:=args,res:=some (.bool true),after:=args }=some (.bool (true == true)) from w_eq_bool (w_res rfl) w_lit) rfl
theorem attach_call {l:OpenLaw}{n:Nat}{q:Program}{loose:List Str}{XP:(Str→Option Value)→Heap→Prop}{YP:World→Heap→Prop}{d:DefRec}
  (hn:l.most=some n) (hdf:d.params.defaults=[])
  (call:∀(w:World) (s₀ s₁:Shared) (mg mb:Str→Option Value) (fa:Addr) (o:Obj) (pm cd doc:Value) (a:Addr) (vs:List Value) (ns:List Int),
   Ground q loose [] XP w s₀ mg mb s₁.heap→YP w s₁.heap →
   s₁.heap.get? fa=some o→o.data=.func (docDef d.name d.params d.body d.scope pm cd doc)→s₁.heap.CodeRec cd d.name→mg d.name=some (.ref fa) →
   s₁.heap.get? a=some { cls:=.type "list",data:=.seq vs.toArray }→IntsAre vs ns→ns.length≤n→s₁.gens=#[] →
   codeAny (model l.prog w) callerA (.call (.ref fa) ⟨[.ref a],[]⟩) (fun r s'=>r=.ok (.ret (.bool true))∧OldK s₁.heap s'.heap∧s'.os=s₁.os∧AllBare s'.gens) s₁):
  WalkO q loose XP YP l.row.toRowW d [] (fun f vs=>PySem.call f vs):=by
 intro w s₀ s₁ mg mb G Y fa o pm cd doc dV kV ho hd hcd hD hmg hg args vals as hpre hlay hrd hwl hlo
 obtain rfl:dV=.none:=Dflts.none hD hdf
 obtain rfl:kV=.none:=Dflts.noKw hD
 obtain⟨a,vs,ns,rfl,rfl,hobj,hints,hlen⟩:=script_of hn hpre hwl
 refine enter_call (codeAny_mono (call w s₀ s₁ mg mb fa o pm cd doc a vs ns G Y ho (fd_plain hd) hcd hmg hobj hints hlen hg) fun r s' hq=>?_)
 obtain⟨rfl,h2,h3,h4⟩:=hq
 exact⟨.inl ⟨.bool true,.bool true,[],rfl,fun _=>rfl,.bool true,post_true l _,fun _=>⟨List.Pairwise.nil,fun _ hm=>(nomatch hm)⟩⟩,h2,h3,h4⟩
section
variable {prog:Program}{w:World}{A:Around}{E:Value→Shared→Prop}{s:Shared}{K:Frag}
def ledger (h:Heap)(L d:Addr):List (Addr×Obj):=(List.range h.objs.size).filterMap fun a=>if a=L∨a=d then none else (h.get? a).map fun o=>(a,o)
end
end Att
namespace L2
open PySem PySem.Spec PyProof.Rows
theorem vals_ints:∀ {vs:List Value} {ns:List Int},IntsAre vs ns→Vals (ns.map V.int) vs
 | _,_,.nil=>.nil
 | _,_,.cons n t h=>.cons ⟨t,rfl⟩ (vals_ints h)
def Only (H:Hp):Prop:=∀b,H b=none∨∃o xs,H b=some (.frz o (.lst xs))
theorem law_call {P:Program}{w:World}{K:PySem.W.Frag}{mg mb:Str→Option Value}{CX:CXT}{k:Nat}{fa a:Addr}{fd:FuncData}{x:Str}{sp:Sp}{s₁:Shared}{vs:List Value}{ns:List Int}
  (KX:K.In s₁.heap) (hns:s₁.heap.Ns mainGlobals mg) (hb:s₁.heap.Ns builtinsNs mb) (hbb:∀x:Str,x≠"__name__"→mb x=bootBuiltins x) (hlim:s₁.heap.NoLimit) (hg:s₁.gens=#[])
  (ha:s₁.heap.get? a=some { cls:=.type "list",data:=.seq vs.toArray }) (hi:IntsAre vs ns) (hl:ns.length≤sizeLine) (hr:Room k callerA)
  (F:∀base:Heap,K.In base→base.Ns mainGlobals mg→FnOk P w K mg base CX k fa fd [x] sp) (hbind:∀(s:Shared) (u:Value),BindsTo s fd ⟨[u],[]⟩ [(x,u)])
  (hsp:∀H:Hp,Only H→SqL K H a (ns.map V.int)→sp [.ref a] H (fun v _=>v=.bl true) fun _ _ _=>False)
  (hCX:∀H e s',CX [] H s₁ (fun _ _ _=>False) e s'→False):
  codeAny (model P w) callerA (.call (.ref fa) ⟨[.ref a],[]⟩) (fun r s'=>r=.ok (.ret (.bool true))∧OldK s₁.heap s'.heap∧s'.os=s₁.os∧AllBare s'.gens) s₁:=by
 have rv:=vals_ints hi
 have lenV:=hi.length
 have core:∀H:Hp,Only H→SqL K H a (ns.map V.int)→HOk P w H s₁.heap→(∀b,H b≠none→b=a)→(H a≠none→K.lookup a=none) →
   codeAny (model P w) callerA (.call (.ref fa) ⟨[.ref a],[]⟩) (fun r s'=>r=.ok (.ret (.bool true))∧OldK s₁.heap s'.heap∧s'.os=s₁.os∧AllBare s'.gens) s₁:=by
  intro H hO hS hok hA hK
  have base_of:∀ {b:Addr} {o:Obj},s₁.heap.get? b=some o→H b=none→(hidT s₁.heap H).get? b=some o:=fun e n=>hidT_get e n
  have noA:∀ {b:Addr} {o:Obj} {es:Array DictEntry} {ep:Nat},s₁.heap.get? b=some o→o.data=.dict es ep→H b=none:=fun {b o es ep} e d=>by
   cases q:H b with
   | none=>rfl
   | some u=>
    have e':b=a:=hA b (by rw[q];simp)
    subst e'
    rw[ha]at e;cases e
    have d':Data.seq vs.toArray _=Data.dict es ep:=d
    cases d'
  have nsK:∀ {b:Addr} {m:Str→Option Value},s₁.heap.Ns b m→(hidT s₁.heap H).Ns b m:=fun {b m} ⟨o,es,ep,e,d,r⟩=>⟨o,es,ep,base_of e (noA e d),d,r⟩
  have hKb:K.In (hidT s₁.heap H):=fun b o e=>base_of (KX b o e) (by
   cases q:H b with
   | none=>rfl
   | some u=>
    have e':b=a:=hA b (by rw[q];simp)
    subst e'
    rw[hK (by rw[q];simp)]at e;cases e)
  have hM:Mod K mg (hidT s₁.heap H):=⟨hKb,nsK hns,⟨mb,nsK hb,hbb⟩,let ⟨mc,h1,h2⟩:=hlim;⟨mc,nsK h1,h2⟩⟩
  have e0:Env0 P w K mg (hidT s₁.heap H) callerA [] s₁ H:=⟨rfl,hM,fun b o e=>of_hidT e,Nat.le_of_eq (hidT_size _ _),trivial,fun b hb=>absurd (show b∈([]:List Addr) from hb) (by simp),hok,.of_eq hg⟩
  refine codeAny_mono ((F _ hKb (nsK hns)).run callerA [] s₁ H ⟨[.ref a],[]⟩ [.ref a] [.ref a] _ _ hr e0 (hbind s₁ (.ref a)) (.cons rfl .nil) (hsp H hO hS)) fun r s' h=>?_
  cases r with
  | error e=>exact(hCX H e s' h).elim
  | ok fl=>
   cases fl with
   | next=>exact False.elim h
   | brk=>exact False.elim h
   | cont=>exact False.elim h
   | ret u=>
    obtain⟨v,H',os,bare,un,hok',r',q⟩:=h
    have q':v=.bl true:=q
    subst q'
    obtain rfl:u=Value.bool true:=r'
    refine⟨rfl,OldK.of_keep fun b o e=>?_,os,bare⟩
    cases q:H b with
    | none=>exact un.keep b o e q (by intro z;exact absurd (show b∈([]:List Addr) from z) (by simp)) (by simp)
    | some u=>
     rcases hO b with z | ⟨ob,xs,z⟩
     ·rw[q]at z;cases z
     ·have z2:=un.frzs b ob _ z
      obtain⟨e1,_⟩:=hok b _ z
      obtain⟨e2,_⟩:=hok' b _ z2
      rw[e]at e1;cases e1
      exact e2
 cases hk:K.lookup a with
 | some o=>
  have e:=KX a o hk
  rw[ha]at e
  cases e
  refine core (fun _=>none) (fun _=>.inl rfl) (.inr ⟨_,vs.toArray,_,hk,rfl,rfl,rfl,by rw[List.size_toArray,lenV];exact hl,by simpa using rv⟩) (fun b u z=>by have z':(none:Option HO)=some u:=z;cases z') (fun b z=>absurd rfl z) fun z=>absurd rfl z
 | none=>
  refine core (fun b=>if b=a then some (.frz { cls:=.type "list",data:=.seq vs.toArray } (.lst (ns.map V.int))) else none) (fun b=>?_) (.inl (.inr ⟨{ cls:=.type "list",data:=.seq vs.toArray },if_pos rfl⟩)) (fun b u z=>?_) (fun b z=>?_) fun _=>hk
  ·by_cases hb:b=a
   ·exact .inr ⟨_,_,if_pos hb⟩
   ·exact .inl (if_neg hb)
  ·by_cases hb:b=a
   ·have z':=(if_pos hb).symm.trans z
    cases z'
    subst hb
    exact⟨ha,by rw[List.length_map];exact hl,vs,_,rv,ha⟩
   ·have z':=(if_neg hb).symm.trans z
    cases z'
  ·by_cases hb:b=a
   ·exact hb
   ·exact absurd (if_neg hb) z
end L2
namespace L2
open PySem PySem.Spec PyProof.Rows
abbrev KOf {K:PySem.W.Frag}{h:Heap}(_:K.In h):PySem.W.Frag:=K
theorem walk_of {l:PySem.W.OpenLaw}{n k:Nat}{q:Program}{loose:List Str}{XP:(Str→Option Value)→Heap→Prop}{YP:World→Heap→Prop}{d:DefRec}{K:Params→PySem.W.Frag}{CX:World→CXT}{sp:World→Sp}{x:Str}
  (hn:l.most=some n) (hn2:n≤sizeLine) (hdf:d.params.defaults=[]) (hr:Room k callerA)
  (hY:∀(w:World) (h:Heap),YP w h→(K w.params).In h)
  (F:∀(w:World) (mg:Str→Option Value) (fa:Addr) (h:Heap),(K w.params).In h→h.Ns mainGlobals mg→mg d.name=some (.ref fa) →
   ∃fd:FuncData,(∀(s:Shared) (u:Value),BindsTo s fd ⟨[u],[]⟩ [(x,u)]) ∧
    ∀base:Heap,(K w.params).In base→base.Ns mainGlobals mg→FnOk l.prog w (K w.params) mg base (CX w) k fa fd [x] (sp w))
  (hsp:∀(w:World) (H:Hp) (a:Addr) (ns:List Int),ns.length≤n→Only H→SqL (K w.params) H a (ns.map V.int)→sp w [.ref a] H (fun v _=>v=.bl true) fun _ _ _=>False)
  (hCX:∀(w:World) (H:Hp) (s:Shared) (e:Value) (s':Shared),CX w [] H s (fun _ _ _=>False) e s'→False):
  PySem.W.WalkO q loose XP YP l.row.toRowW d [] (fun f vs=>PySem.call f vs):=by
 refine Att.attach_call hn hdf fun w s₀ s₁ mg mb fa o pm cd doc a vs ns G Y ho hd hcd hmg hobj hints hlen hg=>?_
 have KX:=hY w _ Y
 obtain⟨fd,hb,hF⟩:=F w mg fa _ KX G.T.g hmg
 exact law_call KX G.T.g G.T.b G.T.builtins G.T.nolimit hg hobj hints (Nat.le_trans hlen hn2) hr hF hb (fun H hO hS=>hsp w H a ns hlen hO hS) fun H e s'=>hCX w H s₁ e s'
def inClass (s:Stmt)(j:Nat):Stmt:=match s with
 | .ClassDef _ _ _ body _ _ _ _ _ _ _=>body.getD j (.Pass ⟨0,0,0,0⟩)
 | _=>.Pass ⟨0,0,0,0⟩
def defArgs (s:Stmt):Arguments:=match s with
 | .FunctionDef _ a _ _ _ _ _ _ _ _=>a
 | _=>{ posonlyargs:=[],args:=[],vararg:=none,kwonlyargs:=[],kw_defaults:=[],kwarg:=none,defaults:=[] }
def defBody (s:Stmt):List Stmt:=match s with
 | .FunctionDef _ _ b _ _ _ _ _ _ _=>b
 | _=>[]
def defScope (s:Stmt):Scope:=match s with
 | .FunctionDef _ _ _ _ _ _ sc _ _ _=>sc
 | _=>{ kind:=.function,names:=[],isGenerator:=false,isCoroutine:=false }
abbrev CX0:CXT:=fun _ _ _ _ _ _=>False
abbrev E0:XK:=fun _ _ _=>False
theorem pass0 {X:Cx}:Passes CX0 X E0:=fun _ _ _ _ _ _ _ h=>h.elim
structure Fun (K:PySem.W.Frag)(x qual:Str)(st:Stmt)(f:Addr)(fd:FuncData):Prop where
 ex:∃(oc:Value) (od:Option Addr) (kV doc pm:Value) (an:Option Addr) (cdv ct:Value) (osl:Array (Option Value)),
  fd=PySem.W.fnOf x qual (defArgs st) (defBody st) (defScope st) .none kV doc pm an cdv ct∧K.lookup f=some ⟨oc,od,.func fd,osl⟩∧PySem.W.codeIn K cdv qual=true
 kp:PySem.W.keepIn K (.ref f)=true
section
variable {P:Program}{w:World}{K:PySem.W.Frag}{mg:Str→Option Value}{base:Heap}
theorem Fun.ok {x qual:Str}{st:Stmt}{f:Addr}{fd:FuncData}{N ps:List Str}{k:Nat}{sp:Sp}(F:Fun K x qual st f fd)(S:FnScope N ps (defScope st))(len:∀vs H Q E,sp vs H Q E→vs.length=ps.length)
  (hbody:∀(cdv:Value) (A:Around) (outer:List Env) (s:Shared) (H:Hp) (vs:List V) (Q:VK) (E:XK),Room k (A.deeper (envOfC qual (defScope st) s.heap.objs.size f cdv))→sp vs H Q E →
   ∃t,PSs (cxOf CX0 P w K mg base N qual (defScope st) f cdv A outer s H E).nox (defBody st) t∧t { nx:=fun _ H'=>Q .non H',rt:=Q } (start N vs) H):FnOk P w K mg base CX0 (k+1) f fd ps sp:=by
 obtain⟨oc,od,kV,doc,pm,an,cdv,ct,osl,rfl,lk,hcd⟩:=F.ex
 refine fn_of lk hcd S len fun A outer s H vs Q E hr hsp=>?_
 obtain⟨t,h,q⟩:=hbody cdv A outer s H vs Q E hr hsp
 exact⟨t,h.nox,q⟩
theorem Fun.binds {x qual:Str}{st:Stmt}{f:Addr}{fd:FuncData}{ps:List Str}(F:Fun K x qual st f fd)
  (h:∀(kV doc pm:Value) (an:Option Addr) (cdv ct:Value) (us:List Value),us.length=ps.length→bindArgs (PySem.W.fnOf x qual (defArgs st) (defBody st) (defScope st) .none kV doc pm an cdv ct) ⟨us,[]⟩=pure (ps.zip us)):Binds K fd ps []:=by
 obtain⟨oc,od,kV,doc,pm,an,cdv,ct,osl,rfl,lk,hcd⟩:=F.ex
 exact .all (h kV doc pm an cdv ct)
theorem fun_mk {x qual:Str}{st:Stmt}{f:Addr}{oc:Value}{od an:Option Addr}{osl:Array (Option Value)}{kV doc pm cdv ct:Value}(l:K.lookup f=some ⟨oc,od,.func (PySem.W.fnOf x qual (defArgs st) (defBody st) (defScope st) .none kV doc pm an cdv ct),osl⟩)
  (c:PySem.W.codeIn K cdv qual=true) (k:PySem.W.keepIn K (.ref f)=true):Fun K x qual st f (PySem.W.fnOf x qual (defArgs st) (defBody st) (defScope st) .none kV doc pm an cdv ct):=⟨⟨oc,od,kV,doc,pm,an,cdv,ct,osl,rfl,l,c⟩,k⟩
end
theorem small1000 {n:Nat}(h:n≤1000):n<sizeLine:=Nat.lt_of_le_of_lt h (by decide)
section
variable {X:Cx}
theorem pv (i:Nat) {x:Str} {pos:Pos} (hN:X.N[i]?=some x:=by rfl) (hv:Vis X.env.scope x:=by first | exact Or.inl rfl | exact Or.inr (Or.inl rfl) | exact Or.inr (Or.inr rfl)) (hd:(x == ("__debug__":Str))=false:=by decide)
  (hcd:(x == ("__classdict__":Str))=false:=by decide):PE X (.Name x pos) (tVar i):=pe_var hN hv hd hcd
end
theorem iteF {A B:Prop}(h:B):if false=true then A else B:=by
 rw[if_neg Bool.false_ne_true]
 exact h
theorem iteT {A B:Prop}(h:A):if true=true then A else B:=by
 rw[if_pos rfl]
 exact h
theorem ite2 {c A B:Prop}[Decidable c](h1:c→A)(h2:¬c→B):if c then A else B:=by
 by_cases h:c
 ·rw[if_pos h]
  exact h1 h
 ·rw[if_neg h]
  exact h2 h
def Same (H H':Hp):Prop:=∀b o,H b=some o→H' b=some o
theorem Same.refl (H:Hp):Same H H:=fun _ _ h=>h
theorem Same.trans {H H1 H2:Hp}(a:Same H H1)(b:Same H1 H2):Same H H2:=fun c o h=>b c o (a c o h)
theorem Same.free {H H':Hp}(e:Same H H'){l:Addr}(h:H' l=Option.none):H l=Option.none:=by
 cases q:H l with
 | none=>rfl
 | some o=>
  rw[e l o q]at h
  cases h
theorem Same.seq {K:PySem.W.Frag}{H H':Hp}{a:Addr}{xs:List V}(e:Same H H')(h:SqL K H a xs):SqL K H' a xs:=by
 rcases h with (h | ⟨o,h⟩) | h
 ·exact .inl (.inl (e _ _ h))
 ·exact .inl (.inr ⟨o,e _ _ h⟩)
 ·exact .inr h
section
variable {κ:Type}[DecidableEq κ]
def valV (kvs:List (κ×V))(k:κ):Option V:=(kvs.find? fun kv=>decide (kv.1=k)).map (·.2)
def putK (kvs:List (κ×V))(k:κ)(v:V):List (κ×V):=
 if (kvs.any fun kv=>decide (kv.1=k))=true then kvs.map (fun kv=>if kv.1=k then (kv.1,v) else kv) else kvs++[(k,v)]
theorem valV_pos {p:κ×V}{r:List (κ×V)}{k:κ}(e:p.1=k):valV (p::r) k=some p.2:=by simp[valV,List.find?_cons,e]
theorem valV_neg {p:κ×V}{r:List (κ×V)}{k:κ}(e:¬p.1=k):valV (p::r) k=valV r k:=by simp[valV,List.find?_cons,e]
theorem valV_any (k:κ):∀kvs:List (κ×V),(kvs.any fun kv=>decide (kv.1=k))=(valV kvs k).isSome
 | []=>rfl
 | p::r=>by
  rw[List.any_cons]
  by_cases e:p.1=k
  ·simp only[valV_pos e,decide_eq_true e,Bool.true_or,Option.isSome_some]
  ·rw[valV_neg e,decide_eq_false e,Bool.false_or];exact valV_any k r
theorem valV_map (k j:κ)(y:V):∀kvs:List (κ×V),valV (kvs.map fun kv=>if kv.1=k then (kv.1,y) else kv) j=(valV kvs j).map fun x=>if j=k then y else x
 | []=>rfl
 | p::r=>by
  have ih:=valV_map k j y r
  rw[List.map_cons]
  by_cases h:p.1=k
  ·rw[if_pos h]
   by_cases e:p.1=j
   ·rw[valV_pos (p:=(p.1,y)) e,valV_pos e,Option.map_some,if_pos (e.symm.trans h)]
   ·rw[valV_neg (p:=(p.1,y)) e,valV_neg e,ih]
  ·rw[if_neg h]
   by_cases e:p.1=j
   ·rw[valV_pos (p:=p) e,valV_pos e,Option.map_some,if_neg (fun z=>h (e.trans z))]
   ·rw[valV_neg (p:=p) e,valV_neg e,ih]
theorem valV_snoc (k j:κ)(y:V):∀kvs:List (κ×V),valV kvs k=none→valV (kvs++[(k,y)]) j=if j=k then some y else valV kvs j
 | [],_=>by
  by_cases e:k=j
  ·rw[if_pos e.symm];exact valV_pos (p:=(k,y)) e
  ·rw[if_neg (fun z=>e z.symm)];exact valV_neg (p:=(k,y)) e
 | p::r,hn=>by
  rw[List.cons_append]
  have hk:¬p.1=k:=fun z=>by rw[valV_pos z]at hn;cases hn
  rw[valV_neg hk]at hn
  have ih:=valV_snoc k j y r hn
  by_cases e:p.1=j
  ·rw[valV_pos e,valV_pos e,if_neg (fun z=>hk (e.trans z))]
  ·rw[valV_neg e,valV_neg e,ih]
theorem valV_put (kvs:List (κ×V))(k j:κ)(y:V):valV (putK kvs k y) j=if j=k then some y else valV kvs j:=by
 unfold putK
 by_cases a:(kvs.any fun kv=>decide (kv.1=k))=true
 ·rw[if_pos a,valV_map]
  rw[valV_any]at a
  by_cases e:j=k
  ·obtain⟨x,hx⟩:=Option.isSome_iff_exists.mp a
   rw[if_pos e,e,hx,Option.map_some,if_pos rfl]
  ·rw[if_neg e]
   cases valV kvs j with
   | none=>rfl
   | some x=>rw[Option.map_some,if_neg e]
 ·rw[if_neg a]
  refine valV_snoc k j y kvs ?_
  rw[valV_any]at a
  cases q:valV kvs k with
  | none=>rfl
  | some x=>rw[q]at a;exact(a rfl).elim
theorem length_putK (kvs:List (κ×V))(k:κ)(v:V):(putK kvs k v).length≤kvs.length+1:=by
 unfold putK
 split
 ·rw[List.length_map];omega
 ·rw[List.length_append,List.length_cons,List.length_nil];omega
theorem RelO.isSome_eq {o:Option V}{u:Option Value}(r:RelO o u):o.isSome=u.isSome:=by
 cases o with
 | none=>cases u with
  | none=>rfl
  | some _=>exact(show False from r).elim
 | some _=>cases u with
  | none=>exact(show False from r).elim
  | some _=>rfl
theorem KV.val {kvs:List (κ×V)}{vs:List (κ×Value)}(r:KV kvs vs)(k:κ):RelO (valV kvs k) (valueAt vs k):=by
 unfold KV at r
 induction r with
 | nil=>exact True.intro
 | @cons p q ps qs h t ih=>
  obtain⟨h1,h2⟩:=h
  by_cases e:p.1=k
  ·have e':q.1=k:=h1.symm.trans e
   have b:valueAt (q::qs) k=some q.2:=by simp[valueAt,List.find?_cons,e']
   rw[valV_pos e,b];exact h2
  ·have e':¬q.1=k:=fun z=>e (h1.trans z)
   have b:valueAt (q::qs) k=valueAt qs k:=by simp[valueAt,List.find?_cons,e']
   rw[valV_neg e,b];exact ih
theorem KV.any {kvs:List (κ×V)}{vs:List (κ×Value)}(r:KV kvs vs)(k:κ):(kvs.any fun kv=>decide (kv.1=k))=vs.any fun kv=>decide (kv.1=k):=by
 unfold KV at r
 induction r with
 | nil=>rfl
 | cons h t ih=>rw[List.any_cons,List.any_cons,ih,h.1]
theorem KV.repl {kvs:List (κ×V)}{vs:List (κ×Value)}(r:KV kvs vs)(k:κ){y:V}{u:Value}(ry:RelV y u):
  KV (kvs.map fun kv=>if kv.1=k then (kv.1,y) else kv) (vs.map fun kv=>if kv.1=k then (kv.1,u) else kv):=by
 unfold KV at r ⊢
 induction r with
 | nil=>exact .nil
 | @cons p q ps qs h t ih=>
  rw[List.map_cons,List.map_cons]
  refine .cons ?_ ih
  obtain⟨h1,h2⟩:=h
  by_cases e:p.1=k
  ·rw[if_pos e,if_pos (h1.symm.trans e)];exact⟨h1,ry⟩
  ·rw[if_neg e,if_neg (fun z=>e (h1.trans z))];exact⟨h1,h2⟩
theorem KV.put {kvs:List (κ×V)}{vs:List (κ×Value)}(r:KV kvs vs)(k:κ){y:V}{u:Value}(ry:RelV y u):KV (putK kvs k y) (stored vs k u):=by
 unfold putK stored
 rw[r.any k]
 by_cases e:(vs.any fun kv=>decide (kv.1=k))=true
 ·rw[if_pos e,if_pos e];exact r.repl k ry
 ·rw[if_neg e,if_neg e];exact Paired.snoc r ⟨rfl,ry⟩
theorem KV.length {kvs:List (κ×V)}{vs:List (κ×Value)}(r:KV kvs vs):kvs.length=vs.length:=Paired.length r
end
theorem kV_is {P:Program}{w:World}{k:Key}{u:Value}(r:RelV (kV k) u):(mixKind P w).is k u=true:=by
 cases k with
 | inl i=>obtain⟨t,e⟩:=(show ∃t,u=Value.int i t from r);subst e;exact mixKind_int P w i t
 | inr x=>obtain⟨t,e⟩:=(show ∃t,u=Value.str x t from r);subst e;exact mixKind_str P w x t
theorem items_are {P:Program}{w:World}:∀ {ks:List Key} {us:List Value},Vals (ks.map kV) us→ItemsAre (mixKind P w) ks us
 | [],_,r=>by rw[List.map_nil]at r;cases r;exact .nil
 | k::ks,_,r=>by
  rw[List.map_cons]at r
  cases r with
  | cons h t=>exact .cons (kV_is h) (items_are t)
abbrev KT (H:Hp):List (List Key×V)→List (List Key×Addr×Value)→Prop:=Paired fun p q=>p.1=q.1∧H q.2.1=some (.tup (p.1.map kV))∧RelV p.2 q.2.2
theorem KT.val {H:Hp}{kvs:List (List Key×V)}{xs:List (List Key×Addr×Value)}(r:KT H kvs xs)(k:List Key):RelO (valV kvs k) ((atKey xs k).map (·.2)):=by
 induction r with
 | nil=>exact True.intro
 | @cons p q ps qs h t ih=>
  obtain⟨h1,_,h2⟩:=h
  by_cases e:p.1=k
  ·have e':q.1=k:=h1.symm.trans e
   have b:atKey (q::qs) k=some q.2:=by simp[atKey,List.find?_cons,e']
   rw[valV_pos e,b];exact h2
  ·have e':¬q.1=k:=fun z=>e (h1.trans z)
   have b:atKey (q::qs) k=atKey qs k:=by simp[atKey,List.find?_cons,e']
   rw[valV_neg e,b];exact ih
theorem KT.repl {H:Hp}{kvs:List (List Key×V)}{xs:List (List Key×Addr×Value)}(r:KT H kvs xs)(k:List Key){y:V}{u:Value}(ry:RelV y u):
  KT H (kvs.map fun kv=>if kv.1=k then (kv.1,y) else kv) (xs.map (putAt k u)):=by
 induction r with
 | nil=>exact .nil
 | @cons p q ps qs h t ih=>
  rw[List.map_cons,List.map_cons]
  refine .cons ?_ ih
  obtain⟨h1,h2,h3⟩:=h
  unfold putAt
  by_cases e:p.1=k
  ·rw[if_pos e,if_pos (h1.symm.trans e)];exact⟨h1,h2,ry⟩
  ·rw[if_neg e,if_neg (fun z=>e (h1.trans z))];exact⟨h1,h2,h3⟩
theorem KT.put {H:Hp}{kvs:List (List Key×V)}{xs:List (List Key×Addr×Value)}(r:KT H kvs xs)(k:List Key){b:Addr}{y:V}{u:Value}(hb:H b=some (.tup (k.map kV)))(ry:RelV y u):
  KT H (putK kvs k y) (storedH xs k b u):=by
 have e:(kvs.any fun kv=>decide (kv.1=k))=(atKey xs k).isSome:=by
  rw[valV_any,(r.val k).isSome_eq,Option.isSome_map]
 unfold putK storedH
 rw[e]
 by_cases q:(atKey xs k).isSome=true
 ·rw[if_pos q,if_pos q];exact r.repl k ry
 ·rw[if_neg q,if_neg q];exact Paired.snoc r ⟨rfl,hb,ry⟩
theorem KT.keeps {H H':Hp}{kvs:List (List Key×V)}{xs:List (List Key×Addr×Value)}(r:KT H kvs xs)(ht:∀b ys,H b=some (.tup ys)→H' b=some (.tup ys)):KT H' kvs xs:=
 Paired.mapP r fun _ _ z=>⟨z.1,ht _ _ z.2.1,z.2.2⟩
section
variable {P:Program}{w:World}{H:Hp}{h:Heap}{a:Addr}
theorem rd_of {u:HO}(ok:HOk P w H h)(e:Rd H a u):ObjOk P w H h a u:=e.ok ok
theorem dk_rd {kvs:List (Key×V)}(ok:HOk P w H h)(e:Rd H a (.dK kvs)):kvs.length≤sizeLine∧(a == sysModules)=false∧∃vs,KV kvs vs∧h.DictOf (mixKind P w) a vs:=
 show ObjOk P w H h a (.dK kvs) from rd_of ok e
theorem dk_of {kvs:List (Key×V)}(ok:HOk P w H h)(e:H a=some (.dK kvs)):kvs.length≤sizeLine∧(a == sysModules)=false∧∃vs,KV kvs vs∧h.DictOf (mixKind P w) a vs:=dk_rd ok (.inl e)
theorem key_of {ks:List Key}(ok:HOk P w H h)(e:H a=some (.tup (ks.map kV))):(tupleKind (mixKind P w)).is h ks a:=by
 obtain⟨_,its,r,o,h1,h2,n,h3⟩:=(show ObjOk P w H h a (.tup (ks.map kV)) from ok a _ e)
 exact⟨o,its.toArray,n,h1,h2,h3,by simpa using items_are r⟩
theorem dt_rd {kvs:List (List Key×V)}(ok:HOk P w H h)(e:Rd H a (.dT kvs)):kvs.length≤sizeLine∧(a == sysModules)=false ∧
  ∃xs,KT H kvs xs∧h.DictOfH (tupleKind (mixKind P w)) a xs:=by
 obtain⟨z,y,xs,r,o,es,ep,h1,h2,h3,h4,h5⟩:=(show ObjOk P w H h a (.dT kvs) from rd_of ok e)
 refine⟨z,y,xs,r,o,es,ep,h1,h2,h3,h4,fun x hx=>?_,h5⟩
 have all:∀ {l:List (List Key×V)} {m:List (List Key×Addr×Value)},KT H l m→∀x∈m,(tupleKind (mixKind P w)).is h x.1 x.2.1:=by
  intro l m q
  induction q with
  | nil=>intro x hx;exact nomatch hx
  | @cons p q ps qs hq t ih=>
   intro x hx
   rcases List.mem_cons.mp hx with e | hx
   ·subst e
    exact key_of ok (by rw[←hq.1];exact hq.2.1)
   ·exact ih x hx
 exact all r x hx
theorem dt_of {kvs:List (List Key×V)}(ok:HOk P w H h)(e:H a=some (.dT kvs)):kvs.length≤sizeLine∧(a == sysModules)=false ∧
  ∃xs,KT H kvs xs∧h.DictOfH (tupleKind (mixKind P w)) a xs:=dt_rd ok (.inl e)
end
def DGet (H:Hp)(a:Addr)(y:V)(r:Option V):Prop:=
 (∃kvs k,Rd H a (.dK kvs)∧y=kV k∧r=valV kvs k)∨∃kvs k b,Rd H a (.dT kvs)∧y=.ref b∧H b=some (.tup (k.map kV))∧r=valV kvs k
def DPut (H:Hp)(a:Addr)(y v:V)(H':Hp):Prop:=
 (∃kvs k,H a=some (.dK kvs)∧y=kV k∧kvs.length<sizeLine∧H'=upd H a (.dK (putK kvs k v))) ∨
 ∃kvs k b,H a=some (.dT kvs)∧y=.ref b∧H b=some (.tup (k.map kV))∧kvs.length<sizeLine∧H'=upd H a (.dT (putK kvs k v))
theorem DGet.k {H:Hp}{a:Addr}{kvs:List (Key×V)}{k:Key}(e:H a=some (.dK kvs)):DGet H a (kV k) (valV kvs k):=.inl ⟨kvs,k,.inl e,rfl,rfl⟩
theorem DGet.t {H:Hp}{a b:Addr}{kvs:List (List Key×V)}{k:List Key}(e:H a=some (.dT kvs))(eb:H b=some (.tup (k.map kV))):DGet H a (.ref b) (valV kvs k):=.inr ⟨kvs,k,b,.inl e,rfl,eb,rfl⟩
theorem DPut.k {H:Hp}{a:Addr}{kvs:List (Key×V)}{k:Key}{v:V}(e:H a=some (.dK kvs))(hl:kvs.length<sizeLine):DPut H a (kV k) v (upd H a (.dK (putK kvs k v))):=.inl ⟨kvs,k,e,rfl,hl,rfl⟩
theorem DPut.t {H:Hp}{a b:Addr}{kvs:List (List Key×V)}{k:List Key}{v:V}(e:H a=some (.dT kvs))(eb:H b=some (.tup (k.map kV)))(hl:kvs.length<sizeLine):
  DPut H a (.ref b) v (upd H a (.dT (putK kvs k v))):=.inr ⟨kvs,k,b,e,rfl,eb,hl,rfl⟩
section
variable {X:Cx}{pins:List (Addr×Obj)}{σ:St}{H:Hp}{s:Shared}{a:Addr}{y v:V}{u r:Value}{o:Option V}{A:Around}{E:Value→Shared→Prop}
theorem Inv.big (I:Inv X pins σ H s):sysModules<s.heap.objs.size:=by
 have h:mainGlobals<s.heap.objs.size:=(I.mod.glob.keeps I.bk).lt
 exact Nat.lt_trans (by decide) h
theorem d_in {Q:Value→Shared→Prop}(hu:A.units+1<cLine)(I:Inv X pins σ H s)(g:DGet H a y o)(ry:RelV y u)(h:∀s',Inv X pins σ H s'→Q (.bool o.isSome) s'):
  wpAny (model X.prog X.w) A (compareOp .In u (.ref a)) Q E s:=by
 rcases g with⟨kvs,k,e,ey,l⟩|⟨kvs,k,b,e,ey,eb,l⟩
 ·subst ey
  obtain⟨z,hd,vs,rel,dd⟩:=dk_rd I.hok e
  refine wpAny_in_of (kV_is ry) hd dd.mapOf ?_
  rw[←(rel.val k).isSome_eq,←l]
  exact h _ (I.tok _)
 ·subst ey
  cases (show u=Value.ref b from ry)
  obtain⟨z,hd,xs,rel,dd⟩:=dt_rd I.hok e
  refine wpAny_in_heap (tupleKind_room_in1 hu) (key_of I.hok eb) hd dd ?_
  have q:=(rel.val k).isSome_eq
  rw[Option.isSome_map]at q
  rw[←q,←l]
  exact h _ (I.tok _)
theorem d_write {h':Heap}{t':Nat}{ob:HO}(I:Inv X pins σ H s)(mu:Mut (H a))(hs:Heap.SameBut a s.heap h')(he:∃q,h'.get? a=some q)(new:ObjOk X.prog X.w (upd H a ob) h' a ob):
  Inv X pins σ (upd H a ob) { s with heap:=h',toks:=t' }:=
 I.write (x:=a) (e:=a) mu (.inl rfl) (fun b q hb z=>(hs.2 b hb).trans z) he new
theorem dk_new {P:Program}{w:World}{H':Hp}{h':Heap}{kvs:List (Key×V)}{vs:List (Key×Value)}(z:kvs.length≤sizeLine)(hd:(a == sysModules)=false)(rel:KV kvs vs)(dd:h'.DictOf (mixKind P w) a vs):
  ObjOk P w H' h' a (.dK kvs):=⟨z,hd,vs,rel,dd⟩
theorem d_setItem {H':Hp}{Q:Unit→Shared→Prop}(hu:A.units+1<cLine)(I:Inv X pins σ H s)(g:DPut H a y v H')(ry:RelV y u)(rv:RelV v r)(h:∀s',Inv X pins σ H' s'→Q () s'):
  wpAny (model X.prog X.w) A (setItem (.ref a) u r) Q E s:=by
 rcases g with⟨kvs,k,e,ey,l,eH⟩|⟨kvs,k,b,e,ey,eb,l,eH⟩
 ·subst ey eH
  obtain⟨z,hd,vs,rel,dd⟩:=dk_of I.hok e
  have hz:vs.length≤sizeLine:=by rw[←rel.length];exact z
  have hl:(putK kvs k v).length≤sizeLine:=by have:=length_putK kvs k v;omega
  refine wpAny_setItem_pairs (hsz:=hz) (kV_is ry) dd fun h' dd' hs=>h _ ?_
  have he:∃q,h'.get? a=some q:=let ⟨q,_,_,hq,_⟩:=dd';⟨q,hq⟩
  exact d_write I (by rw[e];exact True.intro) hs he (dk_new hl hd (rel.put k rv) dd')
 ·subst ey eH
  cases (show u=Value.ref b from ry)
  obtain⟨z,hd,xs,rel,dd⟩:=dt_of I.hok e
  have hz:xs.length≤sizeLine:=by rw[←Paired.length rel];exact z
  have hl:(putK kvs k v).length≤sizeLine:=by have:=length_putK kvs k v;omega
  refine wpAny_setItem_heap (hsz:=hz) (tupleKind_room_in1 hu) (key_of I.hok eb) dd fun h' dd' hs=>h _ ?_
  obtain⟨q,es,ep,hq,h2,h3,h4,_,h5⟩:=dd'
  refine d_write I (by rw[e];exact True.intro) hs ⟨q,hq⟩ ⟨hl,hd,_,(rel.put k eb rv).keeps fun c ys ec=>?_,q,es,ep,hq,h2,h3,h4,h5⟩
  rw[upd_ne (ne_of ec e (fun z=>nomatch z))]
  exact ec
end
section
variable {X:Cx}{pins:List (Addr×Obj)}{σ:St}{H:Hp}{s:Shared}{a:Addr}{kvs:List (Key×V)}{k:Key}{u:Value}{A:Around}{E:Value→Shared→Prop}
end
def tDGet (td ty:TE):TE:=fun σ H Q=>td σ H fun x H1=>ty σ H1 fun y H2=>∃a v,x=.ref a∧DGet H2 a y (some v)∧Q v H2
def tDIn (ty td:TE):TE:=fun σ H Q=>ty σ H fun y H1=>td σ H1 fun x H2=>∃a o,x=.ref a∧DGet H2 a y o∧Q (.bl o.isSome) H2
def tDNotIn (ty td:TE):TE:=fun σ H Q=>ty σ H fun y H1=>td σ H1 fun x H2=>∃a o,x=.ref a∧DGet H2 a y o∧Q (.bl (!o.isSome)) H2
def sDPut (td ty tv:TE):TS:=fun D σ H=>tv σ H fun v H1=>td σ H1 fun x H2=>ty σ H2 fun y H3=>∃a H4,x=.ref a∧DPut H3 a y v H4∧D.nx σ H4
section
variable {X:Cx}{o i e value:Expr}{pos pos' tpos:Pos}{td ty tv:TE}
theorem pc_din (hu:X.A.units+1<cLine)(hi:PE X i ty)(ho:PE X o td):PC X .In i o (tDIn ty td):=by
 intro pins s σ H Q I h
 refine thn (hi pins s σ H _ I h) fun iv s1 ⟨y,H1,I1,ry,q1⟩=>thn (ho pins s1 σ H1 _ I1 q1) fun u s2 ⟨x,H2,I2,rx,a,ov,ex,g,q2⟩=>?_
 subst ex
 obtain rfl:u=Value.ref a:=rx
 exact d_in hu I2 g ry fun s3 I3=>⟨.bl ov.isSome,H2,I3,rfl,q2⟩
theorem ps_dput (hu:X.A.units+1<cLine)(ho:PE X o td)(hi:PE X i ty)(hv:PE X value tv)(hs:swapsWith value (some (.Subscript o i pos')) pos.line X.env=pure false):
  PS X (.Assign [.Subscript o i pos'] value pos) (sDPut td ty tv):=by
 intro pins s σ H D I h
 refine wpAny_Assign_Subscript (thn (hv pins s σ H _ I h) fun r s1 ⟨v,H1,I1,rv,q1⟩=>thn (ho pins s1 σ H1 _ I1 q1) fun u s2 ⟨x,H2,I2,rx,q2⟩=>thn (hi pins s2 σ H2 _ I2 q2) fun iv s3 ⟨y,H3,I3,ry,a,H4,ex,g,q3⟩=>?_) hs
 subst ex
 obtain rfl:u=Value.ref a:=rx
 exact d_setItem hu I3 g ry rv fun s4 I4=>⟨σ,H4,I4,q3⟩
end
theorem dk_empty {P:Program}{w:World}{H:Hp}(h:Heap)(hb:sysModules<h.objs.size):ObjOk P w H (h.push { cls:=.type "dict",data:=.dict #[] }) h.objs.size (.dK []):=
 ⟨Nat.zero_le _,beq_eq_false_iff_ne.mpr (Ne.symm (Nat.ne_of_lt hb)),[],.nil,Heap.DictOf.new h⟩
def tDNewK:TE:=fun _ H Q=>∀p,H p=none→Q (.ref p) (upd H p (.dK []))
section
variable {X:Cx}{pos:Pos}
theorem pe_dnewK:PE X (.Dict [] [] pos) tDNewK:=fun pins s σ H Q I h=>
 wpAny_Dict_empty ⟨.ref s.heap.objs.size,_,I.laid (a:=s.heap.objs.size) (o:=.dK []) (t':=s.toks) (fun _ _ q=>Heap.get?_push_of_some _ q) (Nat.le_refl _) (dk_empty s.heap I.big),rfl,h _ (I.hok.fresh (Nat.le_refl _))⟩
end
def tPairs:List (TE×TE)→St→Hp→(List (V×V)→Hp→Prop)→Prop
 | [],_,H,Q=>Q [] H
 | (tk,tv)::r,σ,H,Q=>tk σ H fun x H1=>tv σ H1 fun y H2=>tPairs r σ H2 fun ps H3=>Q ((x,y)::ps) H3
def mergeK (kvs more:List (Key×V)):List (Key×V):=more.foldl (fun acc kv=>putK acc kv.1 kv.2) kvs
def tDisp (trs:List (TE×TE)):TE:=fun σ H Q=>∀p,H p=none→tPairs trs σ (upd H p (.dK [])) fun ps H2=>H2 p=some (.dK [])∧∃kvs:List (Key×V),ps=kvs.map (fun kv=>(kV kv.1,kv.2))∧kvs.length≤15∧Q (.ref p) (upd H2 p (.dK (mergeK [] kvs)))
def IsD (H:Hp)(a:Addr):Prop:=(∃kvs,Rd H a (.dK kvs))∨∃kvs,Rd H a (.dT kvs)
section
variable {X:Cx}{pins:List (Addr×Obj)}{σ:St}{H:Hp}{s:Shared}{a:Addr}{y d:V}{u r:Value}{o:Option V}{A:Around}{E:Value→Shared→Prop}
end
def tDGet1 (td ty:TE):TE:=fun σ H Q=>td σ H fun x H1=>∃a,x=.ref a∧IsD H1 a∧ty σ H1 fun y H2=>∃o,DGet H2 a y o∧Q (o.getD .non) H2
section
variable {X:Cx}{o e f:Expr}{apos cpos:Pos}{td ty tx:TE}
end
section
variable {X:Cx}{pins:List (Addr×Obj)}{σ:St}{H:Hp}{s:Shared}{a:Addr}{kvs:List (Key×V)}{A:Around}{E:Value→Shared→Prop}
end
section
variable {X:Cx}{pins:List (Addr×Obj)}{σ:St}{H:Hp}{s:Shared}{a:Addr}{y:V}{u:Value}{A:Around}{E:Value→Shared→Prop}
end
section
variable {X:Cx}
end
section
variable {κ:Type}[DecidableEq κ]
end
def clOf (cells:List (Str×Addr)):List (Str×NameKind)→List (Str×Addr)→List (Str×Addr)
 | [],acc=>acc
 | (n,k)::r,acc=>if k == NameKind.free then clOf cells r ((n,(cells.lookup n).getD 0)::acc) else clOf cells r acc
theorem clOf_sub {cells:List (Str×Addr)}:∀(names:List (Str×NameKind)) (acc:List (Str×Addr)) (p:Str×Addr),p∈acc→p∈clOf cells names acc
 | [],_,_,h=>h
 | (n,k)::r,acc,p,h=>by
  unfold clOf
  split
  ·exact clOf_sub r _ p (List.mem_cons_of_mem _ h)
  ·exact clOf_sub r acc p h
theorem clOf_has {cells:List (Str×Addr)}{x:Str}:∀(names:List (Str×NameKind)) (acc:List (Str×Addr)),(x,NameKind.free)∈names→(x,(cells.lookup x).getD 0)∈clOf cells names acc
 | [],_,h=>by cases h
 | (n,k)::r,acc,h=>by
  unfold clOf
  rcases List.mem_cons.mp h with e | h
  ·have e1:x=n:=congrArg Prod.fst e
   have e2:NameKind.free=k:=congrArg Prod.snd e
   subst e1 e2
   exact clOf_sub r _ _ List.mem_cons_self
  ·split
   ·exact clOf_has r _ h
   ·exact clOf_has r _ h
theorem clOf_of {cells:List (Str×Addr)}:∀(names:List (Str×NameKind)) (acc:List (Str×Addr)) (p:Str×Addr),p∈clOf cells names acc→p∈acc∨((p.1,NameKind.free)∈names∧p.2=(cells.lookup p.1).getD 0)
 | [],_,_,h=>.inl h
 | (n,k)::r,acc,p,h=>by
  unfold clOf at h
  split at h
  ·rename_i hk
   have hk':k=NameKind.free:=by simpa using hk
   rcases clOf_of r _ p h with q | ⟨q,e⟩
   ·rcases List.mem_cons.mp q with q | q
    ·subst q;subst hk';exact .inr ⟨List.mem_cons_self,rfl⟩
    ·exact .inl q
   ·exact .inr ⟨List.mem_cons_of_mem _ q,e⟩
  ·rcases clOf_of r _ p h with q | ⟨q,e⟩
   ·exact .inl q
   ·exact .inr ⟨List.mem_cons_of_mem _ q,e⟩
theorem closure_is {sc:Scope}{env:Env}(h:∀y∈sc.names,y.2=NameKind.free→∃c,env.cells.lookup y.1=some c):closureFor sc env=pure (clOf env.cells sc.names []):=by
 have all:∀(names:List (Str×NameKind)) (acc:List (Str×Addr)),(∀y∈names,y.2=NameKind.free→∃c,env.cells.lookup y.1=some c) →
   (forIn names acc fun (y:Str×NameKind) (cs:List (Str×Addr))=>(if (y.2 == NameKind.free)=true then (do let a ←cellOf env y.1;pure (ForInStep.yield ((y.1,a)::cs))) else pure (ForInStep.yield cs):Sem (ForInStep (List (Str×Addr)))))=pure (clOf env.cells names acc):=by
  intro names
  induction names with
  | nil=>intro acc _;rfl
  | cons y r ih=>
   intro acc hy
   obtain⟨n,k⟩:=y
   rw[List.forIn_cons]
   unfold clOf
   by_cases hk:k=NameKind.free
   ·subst hk
    obtain⟨c,hc⟩:=hy (n,NameKind.free) List.mem_cons_self rfl
    have hc':env.cells.lookup n=some c:=hc
    simp only[beq_self_eq_true,if_true,cellOf,hc',pure_bind,Option.getD_some]
    exact ih _ fun z hz=>hy z (List.mem_cons_of_mem _ hz)
   ·have hb:(k == NameKind.free)=false:=by simpa using hk
    simp only[hb,Bool.false_eq_true,if_false,pure_bind]
    exact ih _ fun z hz=>hy z (List.mem_cons_of_mem _ hz)
 have q:=all sc.names [] h
 unfold closureFor
 show (forIn sc.names [] fun (y:Str×NameKind) (cs:List (Str×Addr))=>_) >>= _=_
 first
  | (rw[q];rfl)
  | (refine Eq.trans (congrArg (fun t=>t >>= fun cs=>pure cs) q) ?_;rfl)
structure CmpScope (X:Cx)(sc:Scope):Prop where
 kind:sc.kind=.function
 nocell:∀y∈sc.names,y.2≠NameKind.cell
 loc:∀y∈sc.names,y.2=NameKind.local→sc.names.lookup y.1=some .local
 clos:∀y∈sc.names,y.2=NameKind.free→(X.env.kindOf y.1=some .cell∨X.env.kindOf y.1=some .free)
def pick (ix:List (Option Nat))(σ:St):St:=ix.map fun o=>o.bind fun i=>(σ[i]?).join
def idxOk (N M:List Str)(sc:Scope)(ix:List (Option Nat)):Bool:=
 ix.length == N.length&&(N.zip ix).all fun p=>match p.2 with | none=>true | some i=>decide (M[i]?=some p.1)&&decide (sc.names.lookup p.1=some NameKind.free)
def bx (X:Cx)(sc:Scope)(N:List Str)(fp:List Addr)(s₀:Shared)(H:Hp)(pn:List (Addr×Obj)):Cx:=
 { X with N:=N,s₀:=s₀,H₀:=H,env:=compEnvC sc (clOf X.env.cells sc.names []) s₀.heap.objs.size X.env,outer:=X.stack,stack:=X.stack,ex:=fp,fn:=fun _=>false,pn:=pn,xe:=fun _ _=>False }
theorem relabel_mem {sc:Scope}{env:Env}{x:Str}{k:NameKind}(h:(relabel sc env).names.lookup x=some k):(x,k)∈sc.names∨(k=.cell∧(x,NameKind.free)∈sc.names):=by
 have m:=PySem.mem_of_lookup h
 unfold relabel at m
 obtain⟨⟨n,k'⟩,hm,e⟩:=List.mem_map.mp m
 dsimp only at e
 split at e
 ·rename_i hc
  have e1:n=x:=congrArg Prod.fst e
  have e2:NameKind.cell=k:=congrArg Prod.snd e
  have e3:k'=NameKind.free:=by
   rw[Bool.and_eq_true,Bool.and_eq_true]at hc
   simpa using hc.1.1
  subst e1 e2 e3
  exact .inr ⟨rfl,hm⟩
 ·have e1:n=x:=congrArg Prod.fst e
  have e2:k'=k:=congrArg Prod.snd e
  subst e1 e2
  exact .inl hm
theorem relabel_free {env:Env}{x:Str}:∀ {names:List (Str×NameKind)},names.lookup x=some NameKind.free →
  (names.map fun (n,k)=>if (k == NameKind.free&&env.scope.kind == .function&&env.kindOf n == some .cell) then (n,NameKind.cell) else (n,k)).lookup x=some .cell ∨
  (names.map fun (n,k)=>if (k == NameKind.free&&env.scope.kind == .function&&env.kindOf n == some .cell) then (n,NameKind.cell) else (n,k)).lookup x=some .free
 | [],h=>by simp at h
 | (n,k)::r,h=>by
  by_cases hx:x=n
  ·subst hx
   simp only[List.lookup_cons,beq_self_eq_true]at h
   cases h
   simp only[List.map_cons]
   split
   ·left;simp[List.lookup_cons]
   ·right;simp[List.lookup_cons]
  ·have hb:(x == n)=false:=by simpa using hx
   simp only[List.lookup_cons,hb]at h
   have ih:=relabel_free (env:=env) h
   simp only[List.map_cons]
   split
   ·simpa only[List.lookup_cons,hb] using ih
   ·simpa only[List.lookup_cons,hb] using ih
theorem lookup_of_mem {α:Type}{x:Str}{c:α}:∀ {l:List (Str×α)},(x,c)∈l→∃c',l.lookup x=some c'
 | [],h=>by cases h
 | (n,d)::r,h=>by
  by_cases hx:x=n
  ·subst hx;exact⟨d,by simp[List.lookup_cons]⟩
  ·have hb:(x == n)=false:=by simpa using hx
   rcases List.mem_cons.mp h with e | h
   ·exact absurd (congrArg Prod.fst e) hx
   ·obtain⟨c',e⟩:=lookup_of_mem h
    exact⟨c',by simpa only[List.lookup_cons,hb] using e⟩
section
variable {X:Cx}{pins:List (Addr×Obj)}{σ:St}{H:Hp}{s:Shared}{sc:Scope}{N:List Str}{fp:List Addr}{ix:List (Option Nat)}
theorem Inv.capt (I:Inv X pins σ H s)(S:CmpScope X sc):∀y∈sc.names,y.2=NameKind.free→∃c,X.env.cells.lookup y.1=some c:=fun y hy e=>I.ok.has y.1 (S.clos y hy e)
theorem Inv.clcell (I:Inv X pins σ H s)(S:CmpScope X sc){x:Str}{c:Addr}(h:(clOf X.env.cells sc.names []).lookup x=some c):X.env.cells.lookup x=some c:=by
 rcases clOf_of _ _ _ (PySem.mem_of_lookup h) with q | ⟨q,e⟩
 ·cases q
 ·obtain⟨c',hc⟩:=I.capt S _ q rfl
  have hc':X.env.cells.lookup x=some c':=hc
  have e':c=(X.env.cells.lookup x).getD 0:=e
  rw[hc',Option.getD_some]at e'
  rw[e'];exact hc'
theorem Inv.clhas (I:Inv X pins σ H s)(S:CmpScope X sc){x:Str}(h:(x,NameKind.free)∈sc.names):∃c,(clOf X.env.cells sc.names []).lookup x=some c∧X.env.cells.lookup x=some c:=by
 obtain⟨c,e⟩:=lookup_of_mem (clOf_has (cells:=X.env.cells) sc.names [] h)
 exact⟨c,e,I.clcell S e⟩
theorem Inv.block {h1:Heap}{tk:Nat}{m:Str→Option Value}(I:Inv X pins σ H s)(S:CmpScope X sc)(hix:idxOk N X.N sc ix=true)(hf:∀b∈fp,FpOk X pins H b∧b<s.heap.objs.size)
  (hk:∀b o,s.heap.get? b=some o→h1.get? b=some o) (hn:h1.Ns s.heap.objs.size m):
  Inv (bx X sc N fp s H (X.pn++pins)) [] (pick ix σ) H { s with heap:=h1,toks:=tk }:=by
 have hC:∀b o,s.heap.get? b=some o→b≠s.heap.objs.size:=fun b o e=>Nat.ne_of_lt (Heap.lt_size e)
 have hcell:∀x c,(clOf X.env.cells sc.names []).lookup x=some c→∃v,s.heap.IsCell c v:=fun x c e=>I.cell x c (I.clcell S e)
 have stk:∀b,b≠X.env.locals→b∉X.fs→b∉frs X.stack:=fun b h1 h2 hb=>by
  rcases List.mem_cons.mp (I.stkSub b hb) with z | z
  ·exact h1 z
  ·exact h2 z
 rw[idxOk,Bool.and_eq_true]at hix
 refine⟨⟨I.ok.mod,S.kind,I.ok.glob,I.ok.blt,Nat.le_refl _,?_,?_,?_,I.ok.hd,I.ok.frames,.inl rfl,?_,I.bs,Nat.le_trans I.ok.bsz I.sz,?_,?_,I.stack,I.stkFree⟩,
  rfl,I.bare,Un.kept hk,⟨m,hn,?_⟩,?_,I.fresh,?_,?_,I.hok.kept hk,?_⟩
 ·intro x y c e1 e2
  exact I.ok.inj x y c (I.clcell S e1) (I.clcell S e2)
 ·intro x hx
  have hx:(relabel sc X.env).names.lookup x=some .cell∨(relabel sc X.env).names.lookup x=some .free:=hx
  have hm:(x,NameKind.free)∈sc.names:=by
   rcases hx with hx | hx
   ·rcases relabel_mem hx with q | ⟨_,q⟩
    ·exact absurd rfl (S.nocell _ q)
    ·exact q
   ·rcases relabel_mem hx with q | ⟨q,_⟩
    ·exact q
    ·cases q
  obtain⟨c,e,_⟩:=I.clhas S hm
  exact⟨c,e⟩
 ·intro x c z
  cases z
 ·intro b hb
  obtain⟨f,hlt⟩:=hf b hb
  refine⟨Nat.ne_of_lt hlt,fun x c e=>f.2.2.2.2.1 x c (I.clcell S e)⟩
 ·intro b o e hb
  obtain⟨⟨_,_,_,f3,_⟩,_⟩:=hf b hb
  rcases f3 with z | z
  ·exact I.ok.noex b o e z
  ·exact absurd (Heap.lt_size e) (Nat.not_lt.mpr (Nat.le_trans I.ok.bsz z))
 ·intro b hb
  obtain⟨⟨_,f1,f2,_⟩,_⟩:=hf b hb
  exact stk b f1 f2
 ·intro i x v e1 e2 e3
  have e1:N[i]?=some x:=e1
  have hi:∃j,ix[i]?=some (some j)∧σ[j]?=some (some v):=by
   unfold pick at e2
   rw[List.getElem?_map]at e2
   cases q:ix[i]? with
   | none=>rw[q]at e2;cases e2
   | some o=>
    rw[q]at e2
    cases o with
    | none=>cases e2
    | some j=>
     refine⟨j,rfl,?_⟩
     have e4:(σ[j]?).join=some v:=Option.some.inj e2
     cases q2:σ[j]? with
     | none=>rw[q2]at e4;cases e4
     | some w=>rw[q2]at e4;cases w with
      | none=>cases e4
      | some w=>rw[←e4];rfl
  obtain⟨j,hj,hσ⟩:=hi
  have hz:(x,some j)∈N.zip ix:=by
   have q:(N.zip ix)[i]?=some (x,some j):=by rw[List.getElem?_zip_eq_some];exact⟨e1,hj⟩
   exact List.mem_of_getElem? q
  have hp:=List.all_eq_true.mp hix.2 _ hz
  dsimp only at hp
  rw[Bool.and_eq_true]at hp
  have hM:X.N[j]?=some x:=of_decide_eq_true hp.1
  have hfr:sc.names.lookup x=some NameKind.free:=of_decide_eq_true hp.2
  have hmem:=PySem.mem_of_lookup hfr
  obtain⟨mo,hno,hlo⟩:=I.loc
  have hvis:Vis X.env.scope x:=by
   rcases S.clos _ hmem rfl with z | z
   ·exact .inr (.inl z)
   ·exact .inr (.inr z)
  obtain⟨u,ru,l⟩:=hlo j x v hM hσ hvis
  refine⟨u,ru,.inr ⟨?_,?_⟩⟩
  ·exact relabel_free (env:=X.env) hfr
  ·obtain⟨c,e,e'⟩:=I.clhas S hmem
   refine⟨c,e,?_⟩
   rcases l with⟨k,_⟩|⟨_,c',ec,z⟩
   ·rcases S.clos _ hmem rfl with q | q
    ·rw[k]at q;cases q
    ·rw[k]at q;cases q
   ·rw[e']at ec
    cases ec
    obtain⟨o,ho,hd⟩:=z
    exact⟨o,hk _ _ ho,hd⟩
 ·intro x c e
  obtain⟨v,o,ho,hd⟩:=hcell x c e
  exact⟨v,o,hk _ _ ho,hd⟩
 ·intro x c e
  exact I.freeC x c (I.clcell S e)
 ·intro p hp
  have hp:p∈X.pn++pins:=by
   rcases List.mem_append.mp hp with z | z
   ·exact z
   ·cases z
  obtain⟨e,n,ne,nf,d⟩:=I.pin p hp
  exact⟨hk _ _ e,n,hC _ _ e,stk p.1 ne nf,d⟩
 ·show (pick ix σ).length=N.length
  unfold pick
  rw[List.length_map]
  simpa using hix.1
theorem Inv.unblock {τ:St}{H':Hp}{s':Shared}{h':Heap}(I:Inv X pins σ H s)(hf:∀b∈fp,FpOk X pins H b)(J:Inv (bx X sc N fp s H (X.pn++pins)) [] τ H' s')(hs:Heap.SameBut s.heap.objs.size s'.heap h'):
  Inv X pins σ H' { s' with heap:=h' }:=by
 have nC:∀b o,s.heap.get? b=some o→b≠s.heap.objs.size:=fun b o e=>Nat.ne_of_lt (Heap.lt_size e)
 have hfr:H' s.heap.objs.size=none:=J.free
 have u:Un (frs X.stack) fp H H' s.heap s'.heap:=J.base
 have ok:HOk X.prog X.w H' h':=fun b ob e=>by
  refine(J.hok b ob e).stay (fun c w' hc q=>(hs.2 c ?_).trans q) (fun _ q=>q) fun _ _ q=>q
  rintro rfl
  rcases hc with rfl | hc
  ·rw[hfr]at e;cases e
  ·rw[hfr]at hc;cases hc
 refine I.call' (ch:=fp) J.os ⟨fun b o e n h1 h2=>(hs.2 b (nC b o e)).trans (u.keep b o e n h1 h2),fun b o e n h1 h2=>?_,u.free,fun b o e h2=>?_,u.tups,u.frzs,u.tbls⟩ ok J.bare fun b hb=>?_
 ·obtain⟨sl,q⟩:=u.slot b o e n h1 h2
  exact⟨sl,(hs.2 b (nC b o e)).trans q⟩
 ·obtain⟨o',q⟩:=u.there b o e h2
  exact⟨o',(hs.2 b (nC b o e)).trans q⟩
 ·obtain⟨_,f1,_,f3,f4,f5⟩:=hf b hb
  exact⟨f3,f1,f4,f5⟩
end
def PIfs (X:Cx)(ifs:List Expr)(t:TT):Prop:=
 ∀(pins:List (Addr×Obj)) (s:Shared) (σ:St) (H:Hp) (Q:Bool→Hp→Prop),Inv X pins σ H s→t σ H Q →
  wpAny (model X.prog X.w) X.A (forIn ifs true fun c r=>if r=true then do let ok ←isTrue c X.env (eval c X.env);pure (ForInStep.yield ok) else pure (ForInStep.yield r)) (TP X pins σ Q) X.xe s
def tAll:TT:=fun _ H Q=>Q true H
theorem pifs_nil {X:Cx}:PIfs X [] tAll:=fun _ _ _ H _ I h=>wpAny_tests_nil ⟨H,I,h⟩
theorem pifs_one {X:Cx}{c:Expr}{t:TT}(h:PT X c t):PIfs X [c] t:=fun pins s σ H Q I q=>wpAny_tests_one (h pins s σ H Q I q)
theorem compLoop_any {prog:Program}{w:World}{A:Around}{R:Result→Shared→Prop}{s:Shared}{el tgt iter:Expr}{ifs:List Expr}{scp:Scope}{pos:Pos}{it acc:Value}{env:Env}(W:Nat→Shared→Prop)
  (turn:∀n s,W n s→wpAny (model prog w) A (pyNext it) (fun r s₁=>match r with
   | none=>R (.ok .next) s₁
   | some v=>wpAny (model prog w) A (letOwnedTupleGo tgt it v) (fun _ s₁'=>wpAny (model prog w) A (assign tgt env v) (fun _ s₂=>
     wpAny (model prog w) A (forIn ifs true fun c r=>if r=true then do let ok ←isTrue c env (eval c env);pure (ForInStep.yield ok) else pure (ForInStep.yield r)) (fun ok s₃=>
      if ok=true then wpAny (model prog w) A (eval el env) (fun x s₄=>
       wpAny (model prog w) A (call (.builtin "list.append") [acc,x]) (fun _ s₅=>∃m,m<n∧W m s₅) (fun _ _=>False) s₄) (fun _ _=>False) s₃
      else ∃m,m<n∧W m s₃) (fun _ _=>False) s₂) (fun _ _=>False) s₁') (fun _ _=>False) s₁) (fun _ _=>False) s)
  (n:Nat) (h:W n s):codeAny (model prog w) A (.compLoop (.ListComp el [⟨tgt,iter,ifs,0⟩] scp pos) 0 it acc env) R s:=by
 refine codeAny_loop rfl W (fun n s hI=>?_) n h
 show wpAny _ A ((compTurn (.ListComp el [⟨tgt,iter,ifs,0⟩] scp pos) 0 it acc env).onRaise (fun x=>do noteFrame x env;theTreesLotGoes x)) _ _ s
 refine wpAny_noted ?_
 rw[compTurn_list]
 refine wpAny_bind (wpAny_standAt (wpAny_bind (wpAny_mono (turn n s hI) (fun r s1 q1=>?_) fun _ _ z=>z.elim)))
 cases r with
 | none=>exact wpAny_pure q1
 | some v=>
  refine wpAny_bind (wpAny_mono q1 (fun _ s1' q1'=>?_) fun _ _ z=>z.elim)
  refine wpAny_bind (wpAny_mono q1' (fun _ s2 q2=>wpAny_bind (wpAny_mono q2 (fun ok s3 q3=>?_) fun _ _ z=>z.elim)) fun _ _ z=>z.elim)
  cases ok with
  | false=>exact wpAny_pure ⟨rfl,q3⟩
  | true=>exact wpAny_bind (wpAny_bind (wpAny_mono q3 (fun x s4 q4=>wpAny_bind (wpAny_mono q4 (fun _ s5 q5=>wpAny_pure (wpAny_pure ⟨rfl,q5⟩)) fun _ _ z=>z.elim)) fun _ _ z=>z.elim))
def tComp (ix:List (Option Nat))(wi:TI)(g:TG)(tt:TT)(te:TE):TE:=fun σ H Q=>wi σ H fun J H1=>∀acc,H1 acc=none→∃W:Nat→Nat→St→Hp→Prop,(∃m,W 0 m (pick ix σ) (upd H1 acc (.lst []))) ∧
 ∀i m τ H2,W i m τ H2→(J.stop i H2∧Q (.ref acc) H2)∨(J.go i H2∧∃Nx:St→Hp→Prop,(∀τ' H',Nx τ' H'→∃m',m'<m∧W (i+1) m' τ' H') ∧
  ∀x H3,J.yld i H2 x H3→g x τ H3 fun τ2 H4=>tt τ2 H4 fun b H5=>if b=true then te τ2 H5 fun y H6=>∃ys,H6 acc=some (.lst ys)∧ys.length<sizeLine∧Nx τ2 (upd H6 acc (.lst (ys++[y]))) else Nx τ2 H5)
section
variable {X:Cx}{sc:Scope}{N:List Str}{ix:List (Option Nat)}{elt tg iter:Expr}{ifs:List Expr}{pos:Pos}{wi:TI}{g:TG}{tt:TT}{te:TE}
theorem comp_block {Q:VK}{pins:List (Addr×Obj)}{s:Shared}{σ:St}{H:Hp}{it:Addr}{fp:List Addr}{tn:Nat→Heap→Prop}{J:It}{RR:Value→Addr→Result→Shared→Prop}
  (hc:X.calm=true) (S:CmpScope X sc) (hix:idxOk N X.N sc ix=true)
  (hg:∀fp s₀ H₀ pn,PG (bx X sc N fp s₀ H₀ pn) tg g) (ht:∀fp s₀ H₀ pn,PIfs (bx X sc N fp s₀ H₀ pn) ifs tt) (he:∀fp s₀ H₀ pn,PE (bx X sc N fp s₀ H₀ pn) elt te)
  (I:Inv X pins σ H s) (T:Turn X.prog X.w X.K tg J fp it tn) (st:tn 0 s.heap) (hf:∀b∈fp,FpOk X pins H b)
  (q:∀acc,H acc=none→∃W:Nat→Nat→St→Hp→Prop,(∃m,W 0 m (pick ix σ) (upd H acc (.lst []))) ∧
   ∀i m τ H2,W i m τ H2→(J.stop i H2∧Q (.ref acc) H2)∨(J.go i H2∧∃Nx:St→Hp→Prop,(∀τ' H',Nx τ' H'→∃m',m'<m∧W (i+1) m' τ' H') ∧
    ∀x H3,J.yld i H2 x H3→g x τ H3 fun τ2 H4=>tt τ2 H4 fun b H5=>if b=true then te τ2 H5 fun y H6=>∃ys,H6 acc=some (.lst ys)∧ys.length<sizeLine∧Nx τ2 (upd H6 acc (.lst (ys++[y]))) else Nx τ2 H5))
  (hR:∀(acc:Addr) (s₃ s':Shared) (τ:St) (H':Hp),Inv X pins σ (upd H acc (.lst [])) s₃→(∀b∈fp,FpOk X pins (upd H acc (.lst [])) b)→Inv (bx X sc N fp s₃ (upd H acc (.lst [])) (X.pn++pins)) [] τ H' s'→Q (.ref acc) H' →
   RR (.ref acc) s₃.heap.objs.size (.ok .next) s'):
  wpAny (model X.prog X.w) X.A (newList []) (fun acc s₃=>wpAny (model X.prog X.w) X.A (newFunctionEnv sc X.env.globals (clOf X.env.cells sc.names []) [] X.env.qual none .none (some X.env)) (fun cenv s₄=>
   codeAny (model X.prog X.w) X.A (.compStart (.ListComp elt [⟨tg,iter,ifs,0⟩] sc pos) 0 (.ref it) acc { cenv with scope:=relabel sc X.env }) (RR acc cenv.locals) s₄) X.xe s₃) X.xe s:=by
 refine wpAny_newObj_type ?_
 have hfr:=I.fresh
 have I3:=I.lnew (its:=[]) (ys:=[]) (t':=s.toks) .nil (Nat.zero_le _)
 have fne:∀b∈fp,b<s.heap.objs.size:=fun b hb=>by
  obtain⟨o,e,_⟩:=T.obj 0 _ st b hb
  exact Heap.lt_size e
 have hf3:∀b∈fp,FpOk X pins (upd H s.heap.objs.size (.lst [])) b:=fun b hb=>by
  obtain⟨f0,f⟩:=hf b hb
  refine⟨?_,f⟩
  rw[upd_ne (Nat.ne_of_lt (fne b hb))]
  exact f0
 have q3:=q _ hfr
 have st3:tn 0 (s.heap.push { cls:=.type "list",data:=.seq ([]:List Value).toArray }):=T.keep _ _ _ st fun b _ o e=>Heap.get?_push_of_some _ e
 generalize e3:({ s with heap:=s.heap.push { cls:=.type "list",data:=.seq ([]:List Value).toArray },toks:=s.toks }:Shared)=s3 at I3
 have es3:s3.heap=s.heap.push { cls:=.type "list",data:=.seq ([]:List Value).toArray }:=by rw[←e3]
 rw[←es3]at st3
 have hf3':∀b∈fp,FpOk X pins (upd H s.heap.objs.size (.lst [])) b∧b<s3.heap.objs.size:=fun b hb=>⟨hf3 b hb,by rw[es3,Heap.size_push];exact Nat.lt_succ_of_lt (fne b hb)⟩
 refine wpAny_newFunctionEnv S.nocell (by intro y hy;cases hy) (fun h₁ hns₁ hsb₁=>?_) S.kind
 have hk:∀b o,s3.heap.get? b=some o→h₁.get? b=some o:=fun b o e=>hsb₁.extBut b o (Nat.ne_of_lt (Heap.lt_size e)) (Heap.get?_push_of_some _ e)
 have I4:=I3.block (N:=N) (ix:=ix) (tk:=s3.toks+([]:List (Str×Value)).length) S hix hf3' hk hns₁
 have st4:tn 0 h₁:=T.keep _ _ _ st3 fun b _ o e=>hk b o e
 obtain⟨W,⟨m0,w0⟩,turn⟩:=q3
 have statN:∀ {H':Hp},(∀b∈fp,H' b=none)→∀b∈fp,FpOk (bx X sc N fp s3 (upd H s.heap.objs.size (.lst [])) (X.pn++pins)) [] H' b:=fun {H'} hn b hb=>by
  obtain⟨⟨_,f1,f2,f3,f4,f5⟩,hlt⟩:=hf3' b hb
  refine⟨hn b hb,Nat.ne_of_lt hlt,fun z=>?_,.inl hb,fun x c e=>f4 x c (I3.clcell S e),fun p hp=>?_⟩
  ·rcases List.mem_cons.mp (I3.stkSub b z) with z | z
   ·exact f1 z
   ·exact f2 z
  ·refine f5 p ?_
   rcases List.mem_append.mp hp with z | z
   ·exact z
   ·cases z
 have loop:∀s4:Shared,s4={ s3 with heap:=h₁,toks:=s3.toks+([]:List (Str×Value)).length } →
   codeAny (model X.prog X.w) X.A (.compLoop (.ListComp elt [⟨tg,iter,ifs,0⟩] sc pos) 0 (.ref it) (.ref s.heap.objs.size) (compEnvC sc (clOf X.env.cells sc.names []) s3.heap.objs.size X.env)) (RR (.ref s.heap.objs.size) s3.heap.objs.size) s4:=by
  rintro s4 rfl
  refine compLoop_any (fun n s'=>∃i τ H',Inv (bx X sc N fp s3 (upd H s.heap.objs.size (.lst [])) (X.pn++pins)) [] τ H' s'∧tn i s'.heap∧(∀b∈fp,H' b=none)∧W i n τ H') ?_ m0 ⟨0,_,_,I4,st4,fun b hb=>(hf3 b hb).1,w0⟩
  rintro n s5 ⟨i,τ,H5,I5,st5,fr5,w5⟩
  rcases turn i n τ H5 w5 with⟨stop,qn⟩|⟨go,Nx,hN,step⟩
  ·refine thn (T.done (bx X sc N fp s3 (upd H s.heap.objs.size (.lst [])) (X.pn++pins)) rfl rfl rfl hc i [] s5 τ H5 (fun _ _=>False) I5 (statN fr5) st5 stop) fun r s6 ⟨hr,I6⟩=>?_
   subst hr
   exact hR _ _ _ _ _ I3 hf3 I6 qn
  ·refine thn (T.item (bx X sc N fp s3 (upd H s.heap.objs.size (.lst [])) (X.pn++pins)) rfl rfl rfl hc i [] s5 τ H5 (fun _ _=>False) I5 (statN fr5) st5 go) fun r s6 ⟨u,hr,h6⟩=>?_
   subst hr
   refine thn h6 fun _ s7 ⟨x,H7,I7,r7,y7,st7,fr7⟩=>?_
   have I7':=I7.pinned (statN fr7) (T.obj _ _ st7)
   refine thn (hg _ _ _ _ _ s7 τ H7 x u _ I7' r7 (step x H7 y7)) fun _ s8 ⟨τ8,H8,I8,q8⟩=>?_
   have again:∀ {s9:Shared} {τ9:St} {H9:Hp},Inv (bx X sc N fp s3 (upd H s.heap.objs.size (.lst [])) (X.pn++pins)) ([]++pinsAt fp s7.heap) τ9 H9 s9→Nx τ9 H9 →
     ∃m,m<n∧∃i τ H',Inv (bx X sc N fp s3 (upd H s.heap.objs.size (.lst [])) (X.pn++pins)) [] τ H' s9∧tn i s9.heap∧(∀b∈fp,H' b=none)∧W i m τ H':=fun {s9 τ9 H9} I9 n9=>by
    obtain⟨m',hm,w9⟩:=hN τ9 H9 n9
    refine⟨m',hm,i+1,τ9,H9,I9.unpinned,T.keep _ _ _ st7 fun b hb o e=>(I9.pin (b,o) (List.mem_append_right _ (List.mem_append_right _ (mem_pinsAt hb e)))).1,fun b hb=>?_,w9⟩
    obtain⟨o,e,d⟩:=T.obj _ _ st7 b hb
    exact(I9.pin (b,o) (List.mem_append_right _ (List.mem_append_right _ (mem_pinsAt hb e)))).2.1
   refine thn (ht _ _ _ _ _ s8 τ8 H8 _ I8 q8) fun ok s9 ⟨H9,I9,q9⟩=>?_
   cases ok with
   | false=>exact again I9 q9
   | true=>
    rw[if_pos rfl]at q9 ⊢
    refine thn (he _ _ _ _ _ s9 τ8 H9 _ I9 q9) fun yv s10 ⟨y,H10,I10,r10,ys,ha,hz,q10⟩=>?_
    refine thn (mt_append _ s10 τ8 H10 (.ref s.heap.objs.size) [y] (.ref s.heap.objs.size) [yv] (fun v H'=>v=.non∧Nx τ8 H') I10 rfl (.cons r10 .nil) ⟨_,ys,y,rfl,rfl,ha,hz,rfl,q10⟩) fun _ s11 ⟨_,H11,I11,_,_,q11⟩=>?_
    exact again I11 q11
 exact codeAny_compStart_list (loop _ rfl) (T.self _ 0 _ _ _ st4 (loop _ rfl))
theorem pe_comp (hc:X.calm=true)(S:CmpScope X sc)(hix:idxOk N X.N sc ix=true)(hi:PI X tg iter wi)
  (hg:∀fp s₀ H₀ pn,PG (bx X sc N fp s₀ H₀ pn) tg g) (ht:∀fp s₀ H₀ pn,PIfs (bx X sc N fp s₀ H₀ pn) ifs tt) (he:∀fp s₀ H₀ pn,PE (bx X sc N fp s₀ H₀ pn) elt te)
  (hs:∀x,foldedSetIterable iter X.env x=pure x:=by intro _;rfl):PE X (.ListComp elt [⟨tg,iter,ifs,0⟩] sc pos) (tComp ix wi g tt te):=by
 intro pins s σ H Q I h
 rw[eval_ListComp]
 refine wpAny_comprehension_free (use:=none) rfl hs (closure_is (I.capt S)) S.kind S.loc (thn (hi pins s σ H _ I h) fun v s1 h1=>thn h1 fun itv s2 h2=>?_)
 obtain⟨it,fp,tn,J,H2,e,I2,T,st2,f2,q⟩:=h2
 subst e
 refine comp_block (Q:=Q) (RR:=fun acc C=>compPost (model X.prog X.w) X.A X.xe none (EP X pins σ Q) acc C) hc S hix hg ht he I2 T st2 f2 q ?_
 intro acc s3 s' τ H' I3 hf3 J' qq
 obtain⟨m,hn,_⟩:=J'.loc
 exact⟨m,hn,fun h' hs'=>⟨.ref acc,H',I3.unblock hf3 J' hs',rfl,qq⟩⟩
end
abbrev tx (l:List Nat):V:=.str ⟨l.toArray⟩
theorem tx_inj {a b:List Nat}:tx a=tx b↔a=b:=by
 constructor
 ·intro h
  have h1:(⟨a.toArray⟩:Str)=⟨b.toArray⟩:=V.str.inj h
  have h2:a.toArray=b.toArray:=congrArg Str.cps h1
  simpa using h2
 ·rintro rfl;rfl
theorem dec_tx {a b:List Nat}:decide (tx a=tx b)=decide (a=b):=by
 by_cases h:a=b
 ·subst h;simp
 ·rw[decide_eq_false h,decide_eq_false fun z=>h (tx_inj.mp z)]
theorem txlen (l:List Nat):(⟨l.toArray⟩:Str).length=l.length:=by
 show l.toArray.size=l.length
 simp
def rT (C:List Nat→List Nat→Prop)(g:List Nat→List Nat→V):R2:=fun x y H Q=>∃a b,x=tx a∧y=tx b∧C a b∧Q (g a b) H
def cut {α:Type}(l:List α)(lo hi:Option Int):List α:=(l.drop (HT.sIx l.length 0 lo)).take (HT.sIx l.length l.length hi-HT.sIx l.length 0 lo)
theorem cut_length {α:Type}(l:List α)(lo hi:Option Int):(cut l lo hi).length≤l.length:=by
 unfold cut
 rw[List.length_take,List.length_drop]
 omega
theorem cut_nn {α:Type}(l:List α)(a b:Nat):cut l (some (a:Int)) (some (b:Int))=(l.drop a).take (b-a):=by
 unfold cut
 rw[HT.sIx_nat,HT.sIx_nat]
 apply List.ext_getElem?
 intro i
 simp only[List.getElem?_take,List.getElem?_drop]
 by_cases h1:i<min b l.length-min a l.length
 ·rw[if_pos h1,if_pos (by omega)]
  congr 1;omega
 ·rw[if_neg h1]
  by_cases h2:i<b-a
  ·rw[if_pos h2,List.getElem?_eq_none (by omega)]
  ·rw[if_neg h2]
theorem cut_to {α:Type}(l:List α)(b:Nat):cut l none (some (b:Int))=l.take b:=by
 unfold cut
 rw[HT.sIx_nat,HT.sIx_none]
 apply List.ext_getElem?
 intro i
 simp only[List.getElem?_take,List.getElem?_drop,Nat.zero_add,Nat.sub_zero]
 by_cases h1:i<min b l.length
 ·rw[if_pos h1,if_pos (by omega)]
 ·rw[if_neg h1]
  by_cases h2:i<b
  ·rw[if_pos h2,List.getElem?_eq_none (by omega)]
  ·rw[if_neg h2]
theorem cut_from {α:Type}(l:List α)(a:Nat):cut l (some (a:Int)) none=l.drop a:=by
 unfold cut
 rw[HT.sIx_nat,HT.sIx_none]
 apply List.ext_getElem?
 intro i
 simp only[List.getElem?_take,List.getElem?_drop]
 by_cases h1:i<l.length-min a l.length
 ·rw[if_pos h1];congr 1;omega
 ·rw[if_neg h1,List.getElem?_eq_none (by omega)]
def clp (n:Nat)(v:Option Int)(d:Int):Int:=match v with
 | none=>d
 | some i=>max 0 (min (if i<0 then i+(n:Int) else i) (n:Int))
theorem clp_eq (n d:Nat)(o:Option Int):clp n o (d:Int)=((HT.sIx n d o:Nat):Int):=by
 cases o with
 | none=>rw[HT.sIx_none];rfl
 | some v=>
  have:=HT.clip_eq v n d
  unfold clp
  dsimp only
  rw[←this]
  split<;>omega
theorem strIdx_eq (lo hi:Option Int)(n:Nat):Builtin.Str.strSliceIndices lo hi 1 n=(List.range (HT.sIx n n hi-HT.sIx n 0 lo)).map fun k=>HT.sIx n 0 lo+k:=by
 have g:Builtin.Str.strSliceIndices lo hi 1 n=sliceRange (clp n lo ((0:Nat):Int)) (clp n hi (n:Int)) 1:=by
  cases lo<;>cases hi<;>rfl
 rw[g,clp_eq,clp_eq]
 generalize HT.sIx n 0 lo=a
 generalize HT.sIx n n hi=b
 unfold sliceRange
 have hc:(if (1:Int)>0 then (if (a:Int)<(b:Int) then ((b:Int)-a+1-1)/1 else 0) else (if (a:Int)>(b:Int) then ((a:Int)-b-1-1)/(-1) else 0)).toNat=b-a:=by
  simp only[show (1:Int)>0 by decide,if_true,Int.ediv_one]
  split<;>omega
 dsimp only
 rw[hc]
 apply List.map_congr_left
 intro k _
 omega
theorem slice_tx (l:List Nat)(lo hi:Option Int):Txt.slice ⟨l.toArray⟩ lo hi=⟨(cut l lo hi).toArray⟩:=by
 have h1:=HT.sIx_le l.length 0 (Nat.zero_le _) lo
 have h2:=HT.sIx_le l.length l.length (Nat.le_refl _) hi
 unfold Txt.slice
 rw[txlen,strIdx_eq]
 have e:((List.range (HT.sIx l.length l.length hi-HT.sIx l.length 0 lo)).map fun k=>HT.sIx l.length 0 lo+k).filterMap (fun i=>l.toArray[i]?)=cut l lo hi:=by
  unfold cut
  generalize HT.sIx l.length 0 lo=a at *
  generalize HT.sIx l.length l.length hi=b at *
  have hab:∀n,a+n≤l.length→((List.range n).map fun k=>a+k).filterMap (fun i=>l.toArray[i]?)=(l.drop a).take n:=by
   intro n
   induction n with
   | zero=>intro _;simp
   | succ n ih=>
    intro hn
    rw[List.range_succ,List.map_append,List.filterMap_append,ih (by omega),List.take_add_one]
    have:(l.drop a)[n]?=l[a+n]?:=List.getElem?_drop
    simp[this,List.getElem?_eq_getElem (show a+n<l.length by omega)]
  by_cases hle:a≤b
  ·exact hab _ (by omega)
  ·have:b-a=0:=by omega
   rw[this];simp
 split
 ·rename_i hc
  simp only[beq_self_eq_true,Bool.true_and,List.length_map,List.length_range]at hc
  have hc':HT.sIx l.length l.length hi-HT.sIx l.length 0 lo=l.length:=by simpa using hc
  have:cut l lo hi=l:=by
   unfold cut
   have ha:HT.sIx l.length 0 lo=0:=by omega
   rw[hc',ha,List.drop_zero,List.take_of_length_le (Nat.le_refl _)]
  rw[this]
 ·show (⟨(List.filterMap (fun i=>l.toArray[i]?) _).toArray⟩:Str)=_
  rw[e]
section
variable {X:Cx}
theorem op_add_tx:OpR X (binaryOp .Add) (rT (fun a b=>a.length+b.length≤sizeLine) fun a b=>tx (a++b)):=by
 rintro pins s σ H x y v u Q I rx ry ⟨a,b,rfl,rfl,hz,q⟩
 refine op_add_str pins s σ H _ _ v u Q I rx ry ⟨_,_,rfl,rfl,by rw[txlen,txlen];exact hz,?_⟩
 have e:((⟨a.toArray⟩:Str)++(⟨b.toArray⟩:Str))=⟨(a++b).toArray⟩:=by
  show (⟨a.toArray++b.toArray⟩:Str)=_
  simp
 rw[e];exact q
theorem op_in_sign:OpR X (compareOp .In) (fun x y H Q=>∃c l,x=tx [c]∧y=tx l∧Q (.bl (decide (c∈l))) H):=by
 rintro pins s σ H x y v u Q I rx ry ⟨c,l,rfl,rfl,q⟩
 refine op_in_str pins s σ H _ _ v u Q I rx ry ⟨_,_,rfl,rfl,?_⟩
 have e:=StrLaws.found_one ⟨l.toArray⟩ c
 have e':(!(Builtin.Str.occurrences ⟨l.toArray⟩ ⟨[c].toArray⟩ 0 (⟨l.toArray⟩:Str).length 1).isEmpty)=decide (c∈l):=by
  rw[show ([c].toArray)=#[c] from rfl,e]
 rw[e'];exact q
theorem op_notin_sign:OpR X (compareOp .NotIn) (fun x y H Q=>∃c l,x=tx [c]∧y=tx l∧Q (.bl (!decide (c∈l))) H):=by
 rintro pins s σ H x y v u Q I rx ry ⟨c,l,rfl,rfl,q⟩
 refine op_notin_str pins s σ H _ _ v u Q I rx ry ⟨_,_,rfl,rfl,?_⟩
 have e:=StrLaws.found_one ⟨l.toArray⟩ c
 have e':(!(Builtin.Str.occurrences ⟨l.toArray⟩ ⟨[c].toArray⟩ 0 (⟨l.toArray⟩:Str).length 1).isEmpty)=decide (c∈l):=by
  rw[show ([c].toArray)=#[c] from rfl,e]
 rw[e'];exact q
theorem ix_tx:IxR X (fun x y H Q=>∃l i c,x=tx l∧y=.int i∧l.length≤sizeLine∧atI l i=some c∧Q (tx [c]) H):=by
 rintro value slice pins s σ H x y v u Q I rx ry ⟨l,i,c,rfl,rfl,hz,h,q⟩ hs
 exact ix_str value slice pins s σ H _ _ v u Q I rx ry ⟨_,i,c,rfl,rfl,by rw[txlen];exact hz,h,q⟩ hs
theorem sl_tx:SlR X (fun x lo hi H Q=>∃l,x=tx l∧l.length≤sizeLine∧Q (tx (cut l lo hi)) H):=by
 rintro pins s σ H x v vl vu lo hi sl Q I rx hs pl pu ⟨l,rfl,hz,q⟩
 obtain⟨t,rfl⟩:=rx
 refine⟨"str",_,F.slot_str_getitem.lookup,typeIs_str _ _ _,?_⟩
 have part:∀ {v:Value} {o:Option Int},IsPart v o→∃p:Option (Int×Tok),v=partValue p∧p.map (·.1)=o:=fun {v o} h=>by
  cases h with
  | none=>exact⟨none,rfl,rfl⟩
  | int i t=>exact⟨some (i,t),rfl,rfl⟩
 obtain⟨a,rfl,ea⟩:=part pl
 obtain⟨b,rfl,eb⟩:=part pu
 refine wpAny_getItem_str_slice (l:=a) (u:=b) (st:=none) hs rfl ?_
 have e:(if ((1:Int) == 1&&(Builtin.Str.strSliceIndices lo hi 1 (⟨l.toArray⟩:Str).length).length == (⟨l.toArray⟩:Str).length)=true then (⟨l.toArray⟩:Str) else ⟨((Builtin.Str.strSliceIndices lo hi 1 (⟨l.toArray⟩:Str).length).filterMap ((⟨l.toArray⟩:Str).cps[·]?)).toArray⟩)=⟨(cut l lo hi).toArray⟩:=slice_tx l lo hi
 unfold sliceMade slicePicked
 rw[ea,eb]
 refine post_val_or_str ?_
 refine⟨?_,fun t' k=>?_⟩
 ·show (if ((1:Int) == 1&&(Builtin.Str.strSliceIndices lo hi 1 (⟨l.toArray⟩:Str).length).length == (⟨l.toArray⟩:Str).length)=true then (⟨l.toArray⟩:Str) else ⟨((Builtin.Str.strSliceIndices lo hi 1 (⟨l.toArray⟩:Str).length).filterMap ((⟨l.toArray⟩:Str).cps[·]?)).toArray⟩).length≤sizeLine
  rw[e,txlen]
  exact Nat.le_trans (cut_length _ _ _) hz
 ·refine⟨tx (cut l lo hi),H,I.tok _,⟨t',?_⟩,q⟩
  exact congrArg (fun z=>Value.str z t') e
theorem strsAre_tx:∀ {ls:List (List Nat)} {us:List Value},Vals (ls.map tx) us→StrsAre us (ls.map fun l=>(⟨l.toArray⟩:Str))
 | [],us,r=>by
  rw[List.map_nil]at r;cases r;exact .nil
 | l::ls,us,r=>by
  rw[List.map_cons]at r
  cases r with
  | cons r1 r2=>
   obtain⟨t,e⟩:=r1
   subst e
   exact .cons _ t (strsAre_tx r2)
end
def Its (l:List Nat):It:=⟨fun i _=>i<l.length,fun i H x H'=>H'=H∧∃c,l[i]?=some c∧x=tx [c],fun i _=>l.length≤i⟩
theorem turn_text {P:Program} {w:World} {K:PySem.W.Frag} {tg:Expr} (l:List Nat) (t:Tok) (it:Addr) (ty:String) (hty:ty="str_ascii_iterator"∨ty="str_iterator"):Turn P w K tg (Its l) [it] it (fun i h=>h.IsStrIter it ty ⟨l.toArray⟩ t i) where
 mem:=by simp
 obj:=fun i h st b hb=>by
  have e:b=it:=by simpa using hb
  subst e
  obtain⟨o,e,c,d⟩:=st
  exact⟨o,e,fun v z=>by rw[d]at z;cases z⟩
 keep:=fun i h h' st k=>by
  obtain⟨o,e,r⟩:=st
  exact⟨o,k it (by simp) o e,r⟩
 item:=by
  intro X hP hw hK hc i pins s σ H E I hf st hg
  subst hP hw hK
  obtain⟨f0,f1,f2,f3,f4,f5⟩:=hf it (by simp)
  have hg:i<l.length:=hg
  have hx:(⟨l.toArray⟩:Str).cps[i]?=some l[i]:=by
   show l.toArray[i]?=some l[i]
   simp[hg]
  have fin:∀(h':Heap) (tk:Tok),h'.IsStrIter it ty ⟨l.toArray⟩ t (i+1)→Heap.SameBut it s.heap h' →
    ∃u,some (Value.str ⟨#[l[i]]⟩ s.toks)=some u∧wpAny (model X.prog X.w) X.A (letOwnedTupleGo tg (.ref it) u) (fun _ s2=>∃x H',Inv X pins σ H' s2∧RelV x u∧(Its l).yld i H x H'∧s2.heap.IsStrIter it ty ⟨l.toArray⟩ t (i+1)∧∀b∈[it],H' b=none) E { s with heap:=h',toks:=tk }:=fun h' tk st' sb=>by
   have I1:Inv X pins σ H { s with heap:=h',toks:=tk }:=I.turned (t':=tk) (fun b o hb e=>(sb.2 b hb).trans e) f0 f1 f3 f4 f5
   obtain⟨o,e,c,d⟩:=id st'
   refine⟨_,rfl,go_of (s:={ s with heap:=h',toks:=tk }) e c d ?_ ⟨tx [l[i]],H,I1,⟨_,rfl⟩,⟨rfl,l[i],by simp[hg],rfl⟩,st',fun b hb=>(hf b hb).1⟩⟩
   rcases hty with rfl | rfl<;>decide
  rcases hty with rfl | rfl
  ·exact wpAny_pyNext_ascii_item st hx fun h' st' sb=>fin h' _ st' sb
  ·exact wpAny_pyNext_wide_item st hx fun h' st' sb=>fin h' _ st' sb
 done:=by
  intro X hP hw hK hc i pins s σ H E I hf st hg
  subst hP hw hK
  obtain⟨f0,f1,f2,f3,f4,f5⟩:=hf it (by simp)
  have hg:l.length≤i:=hg
  have hx:(⟨l.toArray⟩:Str).cps[i]?=none:=by
   show l.toArray[i]?=none
   simp[hg]
  rcases hty with rfl | rfl
  ·exact wpAny_pyNext_ascii_end (I.ok.hd hc) st hx fun h' eb=>⟨rfl,I.turned (t':=s.toks) (fun b o hb e=>eb b o hb e) f0 f1 f3 f4 f5⟩
  ·exact wpAny_pyNext_wide_end (I.ok.hd hc) st hx fun h' eb=>⟨rfl,I.turned (t':=s.toks) (fun b o hb e=>eb b o hb e) f0 f1 f3 f4 f5⟩
 self:=by
  intro A i s Q E st h
  rcases hty with rfl | rfl
  ·exact wpAny_pyIter_striter_ascii st h
  ·exact wpAny_pyIter_striter_wide st h
section
variable {X:Cx}{tg:Expr}
def iText (tl:TE):TI:=fun σ H R=>tl σ H fun x H1=>∃l,x=tx l∧R (Its l) H1
theorem pi_text {l:Expr}{tl:TE}(hl:PE X l tl):PI X tg l (iText tl):=by
 intro pins s σ H R I h
 refine thn (hl pins s σ H _ I h) fun v s1 ⟨x,H1,I1,r1,q1⟩=>?_
 obtain⟨l,rfl,q⟩:=q1
 obtain⟨t,rfl⟩:=r1
 have fin:∀ty,(ty="str_ascii_iterator"∨ty="str_iterator")→PIE X pins σ tg R (.ref s1.heap.objs.size) { s1 with heap:=s1.heap.push { cls:=.type ty,data:=.fields #[.str ⟨l.toArray⟩ t,.int 0 0] } }:=fun ty hty=>by
  refine⟨s1.heap.objs.size,[s1.heap.objs.size],_,_,H1,rfl,I1.kept (t':=s1.toks) fun b o e=>Heap.get?_push_of_some _ e,turn_text l t _ ty hty,⟨_,Heap.get?_push_size _ rfl,rfl,rfl⟩,fun b hb=>?_,q⟩
  have e:b=s1.heap.objs.size:=by simpa using hb
  subst e
  exact I1.fpOk (Nat.le_refl _) (I1.hok.fresh (Nat.le_refl _))
 cases ha:(⟨l.toArray⟩:Str).cps.all (· < 128)
 ·exact wpAny_pyIter_wide ha (fin _ (.inr rfl))
 ·exact wpAny_pyIter_ascii ha (fin _ (.inl rfl))
end
theorem for_text {l:List Nat}{g:TG}{tb:TS}{D:Ends}{σ:St}{H:Hp}(Pv:Nat→St→Hp→Prop)(h0:Pv 0 σ H)
  (hs:∀i c σ H,l[i]?=some c→Pv i σ H→g (tx [c]) σ H fun σ2 H2=>tb { D with nx:=Pv (i+1),ct:=Pv (i+1),bk:=D.nx } σ2 H2) (hd:∀σ H,Pv l.length σ H→D.nx σ H):
  ∃W:Nat→Nat→St→Hp→Prop,(∃m,W 0 m σ H)∧∀i m σ H,W i m σ H →
   ((Its l).stop i H∧D.nx σ H)∨((Its l).go i H∧∃N:St→Hp→Prop,(∀σ' H',N σ' H'→∃m',m'<m∧W (i+1) m' σ' H')∧∀x H',(Its l).yld i H x H'→g x σ H' fun σ2 H2=>tb { D with nx:=N,ct:=N,bk:=D.nx } σ2 H2):=by
 refine⟨fun i m σ H=>m=l.length-i∧i≤l.length∧Pv i σ H,⟨l.length,by simp,Nat.zero_le _,h0⟩,?_⟩
 rintro i m σ H ⟨rfl,hi,p⟩
 by_cases hlt:i<l.length
 ·refine .inr ⟨hlt,Pv (i+1),fun σ' H' p'=>⟨l.length-(i+1),by omega,rfl,hlt,p'⟩,fun x H' y=>?_⟩
  obtain⟨e,c,hc,y⟩:=y
  subst e y
  exact hs i c σ _ hc p
 ·have e:i=l.length:=by omega
  subst e
  exact .inl ⟨Nat.le_refl _,hd σ H p⟩
inductive DT where
 | f (v:V)
 | l (xs:List DT)
 | t (xs:List DT)
section
variable (K:PySem.W.Frag)(H:Hp)
mutual
def DatOk:DT→V→Prop
 | .f w,v=>v=w∧flatV w=true
 | .l ds,v=>∃a vs,v=.ref a∧SqL K H a vs∧DatsOk ds vs
 | .t ds,v=>∃a vs,v=.ref a∧SqT K H a vs∧DatsOk ds vs
def DatsOk:List DT→List V→Prop
 | [],vs=>vs=[]
 | d::ds,vs=>∃v r,vs=v::r∧DatOk d v∧DatsOk ds r
end
end
mutual
def deq:DT→DT→Bool
 | .f v,.f w=>eqV v w
 | .l xs,.l ys=>deqs xs ys
 | .t xs,.t ys=>deqs xs ys
 | .f _,.l _=>false
 | .f _,.t _=>false
 | .l _,.f _=>false
 | .t _,.f _=>false
 | .l _,.t _=>false
 | .t _,.l _=>false
def deqs:List DT→List DT→Bool
 | [],[]=>true
 | x::xs,y::ys=>deq x y&&deqs xs ys
 | [],_::_=>false
 | _::_,[]=>false
end
mutual
def dep:DT→Nat
 | .f _=>0
 | .l xs=>deps xs+1
 | .t xs=>deps xs+1
def deps:List DT→Nat
 | []=>0
 | x::xs=>max (dep x) (deps xs)
end
theorem eqV_self {v:V}(h:flatV v=true):eqV v v=true:=by
 cases v<;>first | rfl | (simp[eqV];done) | exact absurd (show false=true from h) Bool.false_ne_true
theorem DatsOk.length {K:PySem.W.Frag}{H:Hp}:∀ {ds:List DT} {vs:List V},DatsOk K H ds vs→vs.length=ds.length
 | [],vs,h=>by
  unfold DatsOk at h;subst h;rfl
 | d::ds,vs,h=>by
  unfold DatsOk at h
  obtain⟨v,r,rfl,_,hr⟩:=h
  rw[List.length_cons,List.length_cons,DatsOk.length hr]
def pairDeq (xs ys:List DT)(j:Nat):Bool:=match xs[j]?,ys[j]? with
 | some x,some y=>deq x y
 | _,_=>false
theorem deqs_eq:∀xs ys:List DT,deqs xs ys=((List.range (min xs.length ys.length)).all (pairDeq xs ys)&&xs.length == ys.length)
 | [],[]=>by simp[deqs]
 | [],_::_=>by simp[deqs]
 | _::_,[]=>by simp[deqs]
 | x::xs,y::ys=>by
  have e:min (x::xs).length (y::ys).length=min xs.length ys.length+1:=by simp only[List.length_cons];omega
  have e2:∀j,pairDeq (x::xs) (y::ys) (j+1)=pairDeq xs ys j:=fun j=>by simp[pairDeq]
  have e3:pairDeq (x::xs) (y::ys) 0=deq x y:=by simp[pairDeq]
  rw[deqs,deqs_eq xs ys,e,List.range_succ_eq_map,List.all_cons,e3,List.all_map]
  have e4:((fun j=>pairDeq (x::xs) (y::ys) j) ∘ Nat.succ)=pairDeq xs ys:=by funext j;exact e2 j
  have e5:(pairDeq (x::xs) (y::ys) ∘ Nat.succ)=pairDeq xs ys:=e4
  rw[e5,Bool.and_assoc]
  simp
mutual
theorem DatOk.uniq {K:PySem.W.Frag}{X:Cx}{pins:List (Addr×Obj)}{σ:St}{H:Hp}{s:Shared}(I:Inv X pins σ H s):∀(d e:DT) (v:V),DatOk X.K H d v→DatOk X.K H e v→deq d e=true
 | .f w,.f u,v,h1,h2=>by
  unfold DatOk at h1 h2
  obtain⟨rfl,hf⟩:=h1
  obtain⟨e,_⟩:=h2
  subst e
  unfold deq
  exact eqV_self hf
 | .f w,.l ys,v,h1,h2=>by
  unfold DatOk at h1 h2
  obtain⟨rfl,hf⟩:=h1
  obtain⟨a,vs,rfl,_⟩:=h2
  exact absurd (show false=true from hf) Bool.false_ne_true
 | .f w,.t ys,v,h1,h2=>by
  unfold DatOk at h1 h2
  obtain⟨rfl,hf⟩:=h1
  obtain⟨a,vs,rfl,_⟩:=h2
  exact absurd (show false=true from hf) Bool.false_ne_true
 | .l xs,.f w,v,h1,h2=>by
  unfold DatOk at h1 h2
  obtain⟨rfl,hf⟩:=h2
  obtain⟨a,vs,rfl,_⟩:=h1
  exact absurd (show false=true from hf) Bool.false_ne_true
 | .t xs,.f w,v,h1,h2=>by
  unfold DatOk at h1 h2
  obtain⟨rfl,hf⟩:=h2
  obtain⟨a,vs,rfl,_⟩:=h1
  exact absurd (show false=true from hf) Bool.false_ne_true
 | .l xs,.l ys,v,h1,h2=>by
  unfold DatOk at h1 h2
  obtain⟨a,vs,rfl,q1,r1⟩:=h1
  obtain⟨b,ws,e,q2,r2⟩:=h2
  cases e
  have:=I.list_inj q1 q2
  subst this
  unfold deq
  exact DatsOk.uniq (K:=K) I xs ys vs r1 r2
 | .t xs,.t ys,v,h1,h2=>by
  unfold DatOk at h1 h2
  obtain⟨a,vs,rfl,q1,r1⟩:=h1
  obtain⟨b,ws,e,q2,r2⟩:=h2
  cases e
  have:=I.tuple_inj q1 q2
  subst this
  unfold deq
  exact DatsOk.uniq (K:=K) I xs ys vs r1 r2
 | .l xs,.t ys,v,h1,h2=>by
  unfold DatOk at h1 h2
  obtain⟨a,vs,rfl,q1,r1⟩:=h1
  obtain⟨b,ws,e,q2,r2⟩:=h2
  cases e
  obtain⟨_,_,⟨o,n,e1,c1,_⟩,_⟩:=I.list q1
  obtain⟨_,_,⟨o',e2,c2,_⟩,_⟩:=I.tuple q2
  rw[e1]at e2;cases e2
  rw[c1]at c2;exact absurd c2 (by simp)
 | .t xs,.l ys,v,h1,h2=>by
  unfold DatOk at h1 h2
  obtain⟨a,vs,rfl,q1,r1⟩:=h1
  obtain⟨b,ws,e,q2,r2⟩:=h2
  cases e
  obtain⟨_,_,⟨o',e2,c2,_⟩,_⟩:=I.tuple q1
  obtain⟨_,_,⟨o,n,e1,c1,_⟩,_⟩:=I.list q2
  rw[e1]at e2;cases e2
  rw[c1]at c2;exact absurd c2 (by simp)
theorem DatsOk.uniq {K:PySem.W.Frag}{X:Cx}{pins:List (Addr×Obj)}{σ:St}{H:Hp}{s:Shared}(I:Inv X pins σ H s):∀(xs ys:List DT) (vs:List V),DatsOk X.K H xs vs→DatsOk X.K H ys vs→deqs xs ys=true
 | [],[],vs,h1,h2=>by unfold deqs;rfl
 | [],y::ys,vs,h1,h2=>by
  unfold DatsOk at h1 h2
  subst h1
  obtain⟨_,_,e,_⟩:=h2
  cases e
 | x::xs,[],vs,h1,h2=>by
  unfold DatsOk at h1 h2
  subst h2
  obtain⟨_,_,e,_⟩:=h1
  cases e
 | x::xs,y::ys,vs,h1,h2=>by
  unfold DatsOk at h1 h2
  obtain⟨v,r,rfl,a1,a2⟩:=h1
  obtain⟨v',r',e,b1,b2⟩:=h2
  cases e
  unfold deqs
  rw[DatOk.uniq (K:=K) I x y v a1 b1,DatsOk.uniq (K:=K) I xs ys r a2 b2]
  rfl
end
section
variable {X:Cx}{pins:List (Addr×Obj)}{σ:St}{H:Hp}{s:Shared}
open SeqAt
theorem eqAt_fl {A:Around}{w:V}{u:Value}{l:Addr}{items:Array Value}(hf:flatV w=true)(r:RelV w u)(hl:s.heap.IsList l items)(hu:A.units<cLine):EqAt A s u (.ref l) false∧EqAt A s (.ref l) u false∧RcAt A s u (.ref l) false∧RcAt A s (.ref l) u false∧RcNeAt A s u (.ref l) true∧RcNeAt A s (.ref l) u true:=by
 cases w with
 | non=>cases r;exact⟨.none_list hl hu,.list_none hl hu,.none_list hl hu,.list_none hl hu,.none_list hl hu,.list_none hl hu⟩
 | bl b=>cases r;exact⟨.bool_list b hl hu,.list_bool b hl hu,.bool_list b hl hu,.list_bool b hl hu,.bool_list b hl hu,.list_bool b hl hu⟩
 | int i=>obtain⟨t,rfl⟩:=r;exact⟨.int_list i t hl hu,.list_int i t hl hu,.int_list i t hl hu,.list_int i t hl hu,.int_list i t hl hu,.list_int i t hl hu⟩
 | str i=>obtain⟨t,rfl⟩:=r;exact⟨.str_list i t hl hu,.list_str i t hl hu,.str_list i t hl hu,.list_str i t hl hu,.str_list i t hl hu,.list_str i t hl hu⟩
 | _=>exact absurd (show false=true from hf) Bool.false_ne_true
theorem eqAt_ft {A:Around}{w:V}{u:Value}{l:Addr}{items:Array Value}(hf:flatV w=true)(r:RelV w u)(hl:s.heap.IsTuple l items)(hu:A.units<cLine):EqAt A s u (.ref l) false∧EqAt A s (.ref l) u false∧RcAt A s u (.ref l) false∧RcAt A s (.ref l) u false∧RcNeAt A s u (.ref l) true∧RcNeAt A s (.ref l) u true:=by
 cases w with
 | non=>cases r;exact⟨.none_tuple hl hu,.tuple_none hl hu,.none_tuple hl hu,.tuple_none hl hu,.none_tuple hl hu,.tuple_none hl hu⟩
 | bl b=>cases r;exact⟨.bool_tuple b hl hu,.tuple_bool b hl hu,.bool_tuple b hl hu,.tuple_bool b hl hu,.bool_tuple b hl hu,.tuple_bool b hl hu⟩
 | int i=>obtain⟨t,rfl⟩:=r;exact⟨.int_tuple i t hl hu,.tuple_int i t hl hu,.int_tuple i t hl hu,.tuple_int i t hl hu,.int_tuple i t hl hu,.tuple_int i t hl hu⟩
 | str i=>obtain⟨t,rfl⟩:=r;exact⟨.str_tuple i t hl hu,.tuple_str i t hl hu,.str_tuple i t hl hu,.tuple_str i t hl hu,.str_tuple i t hl hu,.tuple_str i t hl hu⟩
 | _=>exact absurd (show false=true from hf) Bool.false_ne_true
theorem rc_ll {A:Around}{l b:Addr}{ps qs:List Value}{xs ys:List DT}(hl:s.heap.IsList l ps.toArray)(hb:s.heap.IsList b qs.toArray)(n1:ps.length=xs.length)(n2:qs.length=ys.length)(hu:A.units<cLine)
  (he:∀j (h1:j<ps.length) (h2:j<qs.length),EqAt A.in1 s ps[j] qs[j] (pairDeq xs ys j)):RcAt A s (.ref l) (.ref b) (deqs xs ys)∧RcNeAt A s (.ref l) (.ref b) (!deqs xs ys):=by
 rw[deqs_eq]
 by_cases hz:ps.length=qs.length
 ·have hsz:ps.toArray.size=qs.toArray.size:=by rw[List.size_toArray,List.size_toArray];exact hz
  have e1:((List.range (min xs.length ys.length)).all (pairDeq xs ys)&&xs.length == ys.length)=(List.range ps.toArray.size).all (pairDeq xs ys):=by
   have:xs.length=ys.length:=by omega
   rw[List.size_toArray,n1,←this,Nat.min_self]
   simp
  rw[e1]
  exact⟨RcAt.lists hl hb hsz hu fun j j1 j2=>by simpa using he j (by simpa using j1) (by simpa using j2),RcNeAt.lists hl hb hsz hu fun j j1 j2=>by simpa using he j (by simpa using j1) (by simpa using j2)⟩
 ·have e1:((List.range (min xs.length ys.length)).all (pairDeq xs ys)&&xs.length == ys.length)=false:=by
   have:xs.length≠ys.length:=by omega
   simp[this]
  rw[e1]
  have hsz:(ps.toArray.size != qs.toArray.size)=true:=by rw[List.size_toArray,List.size_toArray];simpa using hz
  exact⟨RcAt.lists_lengths hl hb hsz hu,RcNeAt.lists_lengths hl hb hsz hu⟩
theorem rc_tt {A:Around}{l b:Addr}{ps qs:List Value}{xs ys:List DT}(hl:s.heap.IsTuple l ps.toArray)(hb:s.heap.IsTuple b qs.toArray)(n1:ps.length=xs.length)(n2:qs.length=ys.length)(hu:A.units<cLine)
  (he:∀j (h1:j<ps.length) (h2:j<qs.length),EqAt A.in1 s ps[j] qs[j] (pairDeq xs ys j)):RcAt A s (.ref l) (.ref b) (deqs xs ys)∧RcNeAt A s (.ref l) (.ref b) (!deqs xs ys):=by
 have e1:deqs xs ys=((List.range (min ps.toArray.size qs.toArray.size)).all (pairDeq xs ys)&&ps.toArray.size == qs.toArray.size):=by
  rw[deqs_eq,List.size_toArray,List.size_toArray,n1,n2]
 rw[e1]
 exact⟨RcAt.tuples hl hb hu fun j j1 j2=>by simpa using he j (by simpa using j1) (by simpa using j2),RcNeAt.tuples hl hb hu fun j j1 j2=>by simpa using he j (by simpa using j1) (by simpa using j2)⟩
mutual
theorem eqAt_D (I:Inv X pins σ H s):∀(d e:DT) (A:Around) (x y:V) (u v:Value),DatOk X.K H d x→DatOk X.K H e y→RelV x u→RelV y v→A.units+dep d<cLine→EqAt A s u v (deq d e)
 | .f w,.f w',A,x,y,u,v,h1,h2,ru,rv,hu=>by
  unfold DatOk at h1 h2
  obtain⟨rfl,f1⟩:=h1
  obtain⟨rfl,f2⟩:=h2
  unfold deq
  exact eqAt_V ru rv f1 f2
 | .f w,.l ys,A,x,y,u,v,h1,h2,ru,rv,hu=>by
  unfold DatOk at h1 h2
  obtain⟨rfl,f1⟩:=h1
  obtain⟨a,vs,rfl,q,_⟩:=h2
  cases rv
  obtain⟨its,_,p,_⟩:=I.list q
  unfold deq
  exact(eqAt_fl f1 ru p.isList (by unfold dep at hu;omega)).1
 | .f w,.t ys,A,x,y,u,v,h1,h2,ru,rv,hu=>by
  unfold DatOk at h1 h2
  obtain⟨rfl,f1⟩:=h1
  obtain⟨a,vs,rfl,q,_⟩:=h2
  cases rv
  obtain⟨its,_,p,_⟩:=I.tuple q
  unfold deq
  exact(eqAt_ft f1 ru (show s.heap.IsTuple a its.toArray from p) (by unfold dep at hu;omega)).1
 | .l xs,.f w,A,x,y,u,v,h1,h2,ru,rv,hu=>by
  unfold DatOk at h1 h2
  obtain⟨rfl,f1⟩:=h2
  obtain⟨a,vs,rfl,q,_⟩:=h1
  cases ru
  obtain⟨its,_,p,_⟩:=I.list q
  unfold deq
  exact(eqAt_fl f1 rv p.isList (by omega)).2.1
 | .t xs,.f w,A,x,y,u,v,h1,h2,ru,rv,hu=>by
  unfold DatOk at h1 h2
  obtain⟨rfl,f1⟩:=h2
  obtain⟨a,vs,rfl,q,_⟩:=h1
  cases ru
  obtain⟨its,_,p,_⟩:=I.tuple q
  unfold deq
  exact(eqAt_ft f1 rv (show s.heap.IsTuple a its.toArray from p) (by omega)).2.1
 | .l xs,.t ys,A,x,y,u,v,h1,h2,ru,rv,hu=>by
  unfold DatOk at h1 h2
  obtain⟨a,vs,rfl,q,_⟩:=h1
  obtain⟨b,ws,rfl,q',_⟩:=h2
  cases ru
  cases rv
  obtain⟨its,_,p,_⟩:=I.list q
  obtain⟨its',_,p',_⟩:=I.tuple q'
  unfold deq
  exact EqAt.list_tuple p.isList (show s.heap.IsTuple b its'.toArray from p') (by omega)
 | .t xs,.l ys,A,x,y,u,v,h1,h2,ru,rv,hu=>by
  unfold DatOk at h1 h2
  obtain⟨a,vs,rfl,q,_⟩:=h1
  obtain⟨b,ws,rfl,q',_⟩:=h2
  cases ru
  cases rv
  obtain⟨its,_,p,_⟩:=I.tuple q
  obtain⟨its',_,p',_⟩:=I.list q'
  unfold deq
  exact EqAt.tuple_list (show s.heap.IsTuple a its.toArray from p) p'.isList (by omega)
 | .l xs,.l ys,A,x,y,u,v,h1,h2,ru,rv,hu=>by
  by_cases hxy:x=y
  ·subst hxy
   rw[DatOk.uniq (K:=X.K) I (.l xs) (.l ys) x h1 h2]
   unfold DatOk at h1
   obtain⟨a,vs,rfl,_⟩:=h1
   cases ru
   cases rv
   exact EqAt.same _
  ·unfold DatOk at h1 h2
   obtain⟨a,vs,rfl,q,d1⟩:=h1
   obtain⟨b,ws,rfl,q',d2⟩:=h2
   cases ru
   cases rv
   obtain⟨its,r,p,_⟩:=I.list q
   obtain⟨its',r',p',_⟩:=I.list q'
   unfold deq
   unfold dep at hu
   refine EqAt.of_refs (fun e=>hxy (by rw[e])) (rc_ll p.isList p'.isList (by rw[←r.length,d1.length]) (by rw[←r'.length,d2.length]) (by omega) fun j j1 j2=>?_).1
   exact eqAts_D I xs ys A.in1 vs ws its its' d1 d2 r r' (by show A.units+1+_<_;omega) j j1 j2
 | .t xs,.t ys,A,x,y,u,v,h1,h2,ru,rv,hu=>by
  by_cases hxy:x=y
  ·subst hxy
   rw[DatOk.uniq (K:=X.K) I (.t xs) (.t ys) x h1 h2]
   unfold DatOk at h1
   obtain⟨a,vs,rfl,_⟩:=h1
   cases ru
   cases rv
   exact EqAt.same _
  ·unfold DatOk at h1 h2
   obtain⟨a,vs,rfl,q,d1⟩:=h1
   obtain⟨b,ws,rfl,q',d2⟩:=h2
   cases ru
   cases rv
   obtain⟨its,r,p,_⟩:=I.tuple q
   obtain⟨its',r',p',_⟩:=I.tuple q'
   unfold deq
   unfold dep at hu
   refine EqAt.of_refs (fun e=>hxy (by rw[e])) (rc_tt (show s.heap.IsTuple a its.toArray from p) (show s.heap.IsTuple b its'.toArray from p') (by rw[←r.length,d1.length]) (by rw[←r'.length,d2.length]) (by omega) fun j j1 j2=>?_).1
   exact eqAts_D I xs ys A.in1 vs ws its its' d1 d2 r r' (by show A.units+1+_<_;omega) j j1 j2
theorem eqAts_D (I:Inv X pins σ H s):∀(xs ys:List DT) (A:Around) (vs ws:List V) (ps qs:List Value),DatsOk X.K H xs vs→DatsOk X.K H ys ws→Vals vs ps→Vals ws qs→A.units+deps xs<cLine →
  ∀(j:Nat) (h1:j<ps.length) (h2:j<qs.length),EqAt A s ps[j] qs[j] (pairDeq xs ys j)
 | [],ys,A,vs,ws,ps,qs,d1,d2,r1,r2,hu,j,h1,h2=>by
  unfold DatsOk at d1
  subst d1
  cases r1
  exact absurd h1 (Nat.not_lt_zero _)
 | x::xs,[],A,vs,ws,ps,qs,d1,d2,r1,r2,hu,j,h1,h2=>by
  unfold DatsOk at d2
  subst d2
  cases r2
  exact absurd h2 (Nat.not_lt_zero _)
 | x::xs,y::ys,A,vs,ws,ps,qs,d1,d2,r1,r2,hu,j,h1,h2=>by
  unfold DatsOk at d1 d2
  obtain⟨v,vr,rfl,a1,a2⟩:=d1
  obtain⟨w,wr,rfl,b1,b2⟩:=d2
  unfold deps at hu
  cases r1 with
  | cons ru rus=>
   cases r2 with
   | cons rv rvs=>
    cases j with
    | zero=>
     have:=eqAt_D I x y A v w _ _ a1 b1 ru rv (by omega)
     simpa [pairDeq] using this
    | succ j=>
     have:=eqAts_D I xs ys A vr wr _ _ a2 b2 rus rvs (by omega) j (Nat.lt_of_succ_lt_succ h1) (Nat.lt_of_succ_lt_succ h2)
     simpa [pairDeq] using this
end
theorem rcs_D (I:Inv X pins σ H s){d e:DT}{A:Around}{x y:V}{u v:Value}(h1:DatOk X.K H d x)(h2:DatOk X.K H e y)(ru:RelV x u)(rv:RelV y v)(hu:A.units+dep d<cLine)(hn:¬(flatV x=true∧flatV y=true)):
  RcAt A s u v (deq d e)∧RcNeAt A s u v (!deq d e):=by
 cases d with
 | f w=>
  unfold DatOk at h1
  obtain⟨rfl,f1⟩:=h1
  cases e with
  | f w'=>
   unfold DatOk at h2
   obtain⟨rfl,f2⟩:=h2
   exact absurd ⟨f1,f2⟩ hn
  | l ys=>
   unfold DatOk at h2
   obtain⟨a,vs,rfl,q,_⟩:=h2
   cases rv
   obtain⟨its,_,p,_⟩:=I.list q
   have z:=eqAt_fl (A:=A) f1 ru p.isList (by omega)
   unfold deq
   exact⟨z.2.2.1,z.2.2.2.2.1⟩
  | t ys=>
   unfold DatOk at h2
   obtain⟨a,vs,rfl,q,_⟩:=h2
   cases rv
   obtain⟨its,_,p,_⟩:=I.tuple q
   have z:=eqAt_ft (A:=A) f1 ru (show s.heap.IsTuple a its.toArray from p) (by omega)
   unfold deq
   exact⟨z.2.2.1,z.2.2.2.2.1⟩
 | l xs=>
  unfold DatOk at h1
  obtain⟨a,vs,rfl,q,d1⟩:=h1
  cases ru
  obtain⟨its,r,p,_⟩:=I.list q
  cases e with
  | f w=>
   unfold DatOk at h2
   obtain⟨rfl,f1⟩:=h2
   have z:=eqAt_fl (A:=A) f1 rv p.isList (by omega)
   unfold deq
   exact⟨z.2.2.2.1,z.2.2.2.2.2⟩
  | l ys=>
   unfold DatOk at h2
   obtain⟨b,ws,rfl,q',d2⟩:=h2
   cases rv
   obtain⟨its',r',p',_⟩:=I.list q'
   unfold deq
   unfold dep at hu
   exact rc_ll p.isList p'.isList (by rw[←r.length,d1.length]) (by rw[←r'.length,d2.length]) (by omega) fun j j1 j2=>eqAts_D I xs ys A.in1 vs ws its its' d1 d2 r r' (by show A.units+1+_<_;omega) j j1 j2
  | t ys=>
   unfold DatOk at h2
   obtain⟨b,ws,rfl,q',d2⟩:=h2
   cases rv
   obtain⟨its',r',p',_⟩:=I.tuple q'
   unfold deq
   exact⟨RcAt.list_tuple p.isList (show s.heap.IsTuple b its'.toArray from p') (by omega),RcNeAt.list_tuple p.isList (show s.heap.IsTuple b its'.toArray from p') (by omega)⟩
 | t xs=>
  unfold DatOk at h1
  obtain⟨a,vs,rfl,q,d1⟩:=h1
  cases ru
  obtain⟨its,r,p,_⟩:=I.tuple q
  cases e with
  | f w=>
   unfold DatOk at h2
   obtain⟨rfl,f1⟩:=h2
   have z:=eqAt_ft (A:=A) f1 rv (show s.heap.IsTuple a its.toArray from p) (by omega)
   unfold deq
   exact⟨z.2.2.2.1,z.2.2.2.2.2⟩
  | t ys=>
   unfold DatOk at h2
   obtain⟨b,ws,rfl,q',d2⟩:=h2
   cases rv
   obtain⟨its',r',p',_⟩:=I.tuple q'
   unfold deq
   unfold dep at hu
   exact rc_tt (show s.heap.IsTuple a its.toArray from p) (show s.heap.IsTuple b its'.toArray from p') (by rw[←r.length,d1.length]) (by rw[←r'.length,d2.length]) (by omega) fun j j1 j2=>eqAts_D I xs ys A.in1 vs ws its its' d1 d2 r r' (by show A.units+1+_<_;omega) j j1 j2
  | l ys=>
   unfold DatOk at h2
   obtain⟨b,ws,rfl,q',d2⟩:=h2
   cases rv
   obtain⟨its',r',p',_⟩:=I.list q'
   unfold deq
   exact⟨RcAt.tuple_list (show s.heap.IsTuple a its.toArray from p) p'.isList (by omega),RcNeAt.tuple_list (show s.heap.IsTuple a its.toArray from p) p'.isList (by omega)⟩
end
def rEqD (K:PySem.W.Frag)(neg:Bool):R2:=fun x y H Q=>(scal x y=true∧Q (.bl (if neg then !decide (x=y) else decide (x=y))) H) ∨
 ∃d e,DatOk K H d x∧DatOk K H e y∧¬(flatV x=true∧flatV y=true)∧dep d≤60∧Q (.bl (if neg then !deq d e else deq d e)) H
theorem op_eqD {X:Cx}(hu:X.A.units+64<cLine):OpR X (compareOp .Eq) (rEqD X.K false):=by
 intro pins s σ H x y v u Q I rx ry h
 rcases h with⟨h1,q⟩|⟨d,e,h1,h2,hn,hd,q⟩
 ·exact op_eq pins s σ H x y v u Q I rx ry ⟨h1,q⟩
 ·exact(rcs_D I h1 h2 rx ry (by omega) hn).1 _ _ _ _ ⟨.bl _,H,I,rfl,q⟩
theorem op_neD {X:Cx}(hu:X.A.units+64<cLine):OpR X (compareOp .NotEq) (rEqD X.K true):=by
 intro pins s σ H x y v u Q I rx ry h
 rcases h with⟨h1,q⟩|⟨d,e,h1,h2,hn,hd,q⟩
 ·exact op_ne pins s σ H x y v u Q I rx ry ⟨h1,q⟩
 ·exact(rcs_D I h1 h2 rx ry (by omega) hn).2 _ _ _ _ ⟨.bl _,H,I,rfl,q⟩
theorem DatOk.same {K:PySem.W.Frag}{H H':Hp}(hl:∀a xs,SqL K H a xs→SqL K H' a xs)(ht:∀a xs,SqT K H a xs→SqT K H' a xs):∀ {d:DT} {v:V},DatOk K H d v→DatOk K H' d v:=by
 have both:∀d:DT,(∀v,DatOk K H d v→DatOk K H' d v):=by
  intro d
  refine DT.rec (motive_1:=fun d=>∀v,DatOk K H d v→DatOk K H' d v) (motive_2:=fun ds=>∀vs,DatsOk K H ds vs→DatsOk K H' ds vs) ?_ ?_ ?_ ?_ ?_ d
  ·intro w v h;unfold DatOk at h ⊢;exact h
  ·intro xs ih v h
   unfold DatOk at h ⊢
   obtain⟨a,vs,e,q,r⟩:=h
   exact⟨a,vs,e,hl a vs q,ih vs r⟩
  ·intro xs ih v h
   unfold DatOk at h ⊢
   obtain⟨a,vs,e,q,r⟩:=h
   exact⟨a,vs,e,ht a vs q,ih vs r⟩
  ·intro vs h;unfold DatsOk at h ⊢;exact h
  ·intro x xs h1 h2 vs h
   unfold DatsOk at h ⊢
   obtain⟨v,r,e,a,b⟩:=h
   exact⟨v,r,e,h1 v a,h2 r b⟩
 exact fun {d v} h=>both d v h
theorem Same.seqT {K:PySem.W.Frag}{H H':Hp}{a:Addr}{xs:List V}(e:Same H H')(h:SqT K H a xs):SqT K H' a xs:=by
 rcases h with (h | ⟨o,h⟩) | h
 ·exact .inl (.inl (e _ _ h))
 ·exact .inl (.inr ⟨o,e _ _ h⟩)
 ·exact .inr h
theorem Same.dat {K:PySem.W.Frag}{H H':Hp}(e:Same H H'){d:DT}{v:V}(h:DatOk K H d v):DatOk K H' d v:=h.same (fun _ _ q=>e.seq q) (fun _ _ q=>e.seqT q)
theorem datsFlat {K:PySem.W.Frag}{H:Hp}:∀ {vs:List V},vs.all flatV=true→DatsOk K H (vs.map DT.f) vs
 | [],_=>by unfold DatsOk;rfl
 | v::r,h=>by
  rw[List.all_cons,Bool.and_eq_true]at h
  rw[List.map_cons]
  unfold DatsOk
  exact⟨v,r,rfl,by unfold DatOk;exact⟨rfl,h.1⟩,datsFlat h.2⟩
theorem deps_flat (vs:List V):deps (vs.map DT.f)=0:=by
 induction vs with
 | nil=>rfl
 | cons v r ih=>rw[List.map_cons];unfold deps;rw[ih];rfl
theorem eqV_tx (a b:List Nat):eqV (tx a) (tx b)=decide (tx a=tx b):=by
 rw[dec_tx]
 show ((⟨a.toArray⟩:Str) == ⟨b.toArray⟩)=_
 by_cases h:a=b
 ·subst h;simp
 ·rw[decide_eq_false h]
  exact beq_eq_false_iff_ne.mpr fun z=>h (tx_inj.mp (congrArg V.str z))
theorem datL {K:PySem.W.Frag}{H:Hp}{a:Addr}{vs:List V}(h:SqL K H a vs)(hf:vs.all flatV=true):DatOk K H (.l (vs.map DT.f)) (.ref a):=by
 unfold DatOk
 exact⟨a,vs,rfl,h,datsFlat hf⟩
theorem datT {K:PySem.W.Frag}{H:Hp}{a:Addr}{vs:List V}(h:SqT K H a vs)(hf:vs.all flatV=true):DatOk K H (.t (vs.map DT.f)) (.ref a):=by
 unfold DatOk
 exact⟨a,vs,rfl,h,datsFlat hf⟩
theorem datF {K:PySem.W.Frag}{H:Hp}{v:V}(hf:flatV v=true):DatOk K H (.f v) v:=by
 unfold DatOk
 exact⟨rfl,hf⟩
end L2
namespace L2
open PySem PySem.Spec PyProof.Rows
open PySem.W (Frag findIn specialIn typeIn mroIn clsIn InstAt Looks)
def veMro:List Value:=[.type "ValueError",.type "Exception",.type "BaseException",.type "object"]
def isRefV:Value→Bool
 | .ref _=>true
 | _=>false
def xmro (l:List Value):Bool:=l.dropWhile isRefV == veMro
theorem xmro_ind {P:List Value→Prop}(h0:P veMro)(h1:∀c r,P r→P (.ref c::r)):∀l:List Value,xmro l=true→P l
 | [],e=>by simp[xmro,veMro]at e
 | v::r,e=>by
  cases hv:isRefV v with
  | true=>
   cases v with
   | ref c=>
    refine h1 c r (xmro_ind h0 h1 r ?_)
    unfold xmro at e ⊢
    rw[List.dropWhile_cons,if_pos hv]at e
    exact e
   | _=>cases hv
  | false=>
   unfold xmro at e
   rw[List.dropWhile_cons,if_neg (by rw[hv];exact Bool.false_ne_true)]at e
   rw[show (v::r)=veMro by simpa using e]
   exact h0
theorem refuse_ve (self:Value):refuseLoop self "__setattr__" veMro=pure ():=by
 first | rfl | kernel_rfl
theorem refuse_x (self:Value){l:List Value}(e:xmro l=true):refuseLoop self "__setattr__" l=pure ():=
 xmro_ind (P:=fun l=>refuseLoop self "__setattr__" l=pure ()) (refuse_ve self) (fun c r h=>by rw[refuseLoop_ref];exact h) l e
theorem xmro_has {n:String}{b:Bool}(h:veMro.contains (.type n)=b){l:List Value}(e:xmro l=true):l.contains (.type n)=b:=
 xmro_ind (P:=fun l=>l.contains (.type n)=b) h (fun c r h=>by rw[List.contains_cons,h];rfl) l e
structure Xc (K:Frag)(C:Addr):Prop where
 ga:findIn K (.ref C) "__getattribute__"=some (some (.builtin "BaseException.__getattribute__"))
 gr:findIn K (.ref C) "__getattr__"=some none
 sa:findIn K (.ref C) "__setattr__"=some (some (.builtin "object.__setattr__"))
 hd:PySem.W.hasDictIn K C=true
 mr:(clsIn K C).any (fun cd=>xmro cd.mro)=true
theorem xmro_ne {l:List Value}(e:xmro l=true):l.isEmpty=false:=by
 cases l with
 | nil=>simp[xmro,veMro]at e
 | cons _ _=>rfl
theorem Xc.base {K:Frag}{C:Addr}(c:Xc K C){n:String}{b:Bool}(h:veMro.contains (.type n)=b):mroIn K C (.type n)=some b:=by
 obtain⟨cd,hc,hm⟩:=PySem.W.any_some c.mr
 unfold PySem.W.mroIn
 rw[hc,Option.bind_some,if_neg (by rw[xmro_ne hm];exact Bool.false_ne_true),xmro_has h hm]
def xo (a C:Addr)(d:Option Addr):HO:=.ext fun h=>∃(o:Obj) (t:Addr),h.get? a=some o∧o.cls=.ref C∧o.dict=d∧o.data=.fields #[.ref t,.none,.none,.none,.bool false,.none]
def xdO (d:Addr)(fs:List (Str×V)):HO:=.ext fun h=>fs.length≤1000∧∃mA,h.Ns1 d mA∧(∀f,RelO (fs.lookup f) (mA f))∧PySem.Within mA (fs.map (·.1))
inductive XAt (H:Hp) (e C:Addr):List (Str×V)→Prop where
 | bare:H e=some (xo e C none)→XAt H e C []
 | full {d:Addr} {fs:List (Str×V)}:H e=some (xo e C (some d))→H d=some (xdO d fs)→d≠e→XAt H e C fs
theorem upd_id {H:Hp}{a:Addr}{o:HO}(h:H a=some o):upd H a o=H:=by
 funext b
 unfold upd
 by_cases hb:b=a
 ·rw[if_pos hb,hb,h]
 ·rw[if_neg hb]
theorem XAt.same {H H':Hp}{e C:Addr}{fs:List (Str×V)}(x:XAt H e C fs)(s:Same H H'):XAt H' e C fs:=by
 cases x with
 | bare h=>exact .bare (s _ _ h)
 | full h1 h2 h3=>exact .full (s _ _ h1) (s _ _ h2) h3
section
variable {X:Cx}{pins:List (Addr×Obj)}{σ:St}{H:Hp}{s:Shared}{e C:Addr}{fs:List (Str×V)}{f:Str}{v:V}{A:Around}{E:Value→Shared→Prop}
theorem xo_obj {d:Option Addr}(I:Inv X pins σ H s)(h:H e=some (xo e C d)):∃(o:Obj) (t:Addr),s.heap.get? e=some o∧o.cls=.ref C∧o.dict=d∧o.data=.fields #[.ref t,.none,.none,.none,.bool false,.none]:=(I.hok e _ h).1
theorem xo_ok {P:Program}{w:World}{H:Hp}{h:Heap}{d:Option Addr}{o:Obj}{t:Addr}(h1:h.get? e=some o)(h2:o.cls=.ref C)(h3:o.dict=d)(h4:o.data=.fields #[.ref t,.none,.none,.none,.bool false,.none]):ObjOk P w H h e (xo e C d):=
 ⟨⟨o,t,h1,h2,h3,h4⟩,⟨o,h1⟩,fun a b ⟨o,t,q1,q⟩ k=>⟨o,t,k o q1,q⟩⟩
theorem xdO_ok {P:Program}{w:World}{H:Hp}{h:Heap}{d:Addr}{mA:Str→Option Value}(hz:fs.length≤1000)(h1:h.Ns1 d mA)(h2:∀f,RelO (fs.lookup f) (mA f))(h3:PySem.Within mA (fs.map (·.1))):ObjOk P w H h d (xdO d fs):=by
 obtain⟨o,es,ep,ho,r⟩:=id h1
 refine⟨⟨hz,mA,h1,h2,h3⟩,⟨o,ho⟩,fun a b ⟨hz,m,⟨o,es,ep,q,r⟩,z⟩ k=>⟨hz,m,⟨o,es,ep,k o q,r⟩,z⟩⟩
theorem XAt.inst (I:Inv X pins σ H s)(x:XAt H e C fs):∃(ox:Obj) (od:Option Obj),InstAt s.heap e ox C od∧∀name,∃r,(match od with | some o=>PySem.W.lookIn name o | none=>some none)=some r∧RelO (fs.lookup name) r:=by
 cases x with
 | bare h=>
  obtain⟨o,t,h1,h2,h3,h4⟩:=xo_obj I h
  exact⟨o,none,⟨h1,h2,by unfold PySem.W.notCls;rw[h4],by rw[h3];trivial⟩,fun name=>⟨none,rfl,by trivial⟩⟩
 | @full d _ h h' hne=>
  obtain⟨o,t,h1,h2,h3,h4⟩:=xo_obj I h
  obtain⟨⟨_,mA,hn,hr,_⟩,_⟩:=I.hok d _ h'
  obtain⟨od,hod,hl⟩:=lookIn_ns hn
  exact⟨o,some od,⟨h1,h2,by unfold PySem.W.notCls;rw[h4],by rw[h3];exact hod⟩,fun name=>⟨mA name,hl name,hr name⟩⟩
theorem entry_bga:entryFor table "BaseException.__getattribute__"=some Builtin.«object.__getattribute__»:=F.entry_bexc_ga
theorem xget_value {K:Frag}{x:Addr}{ox:Obj}{od:Option Obj}{name:Str}{expr:Bool}{u:Value}{prog:Program}{w:World}{Q:Value→Shared→Prop}(KX:K.In s.heap)(I:InstAt s.heap x ox C od)(c:Xc K C)
  (hf:PySem.W.findObj K C od name=some (.value u)) (hh:PySem.W.handedIn u=true) (h:Q u { s with toks:=s.toks+1 }):wpAny (model prog w) A (getAttr (.ref x) name expr) Q E s:=by
 obtain⟨hp,g,d,t,os⟩:=s
 have L0:=I.type (M:=model prog w)
 have L1:=PySem.W.looks_findIn (M:=model prog w) KX c.ga
 have L2:=PySem.W.looks_findIn (M:=model prog w) KX c.gr
 have L3:=PySem.W.looks_find (M:=model prog w) KX I hf
 have L4:=PySem.W.looks_mroIn (M:=model prog w) KX (c.base (n:="BaseException") (b:=true) (by decide +kernel))
 have hx2:(Value.builtin "BaseException.__getattribute__" == Value.builtin "object.__getattribute__")=false:=by decide +kernel
 have slot:=F.excAttr_ValueError.ga
 unfold getAttr getAttrBy
 refine wpAny_bind (wpAny_mkText (wpAny_holding (wpAny_bind (L0.at (wpAny_bind (L1.at ?_))))))
 dsimp only
 rw[hx2,Bool.and_false,if_neg Bool.false_ne_true]
 unfold getAttrByItsOwn hookBefore
 refine wpAny_bind ?_
 show wpAny _ _ (if onTheHeap (Value.ref C)=true then typeLookup (.ref C) "__getattr__" else pure none) _ _ _
 rw[if_pos (show onTheHeap (Value.ref C)=true from rfl)]
 refine L2.at (wpAny_bind (wpAny_attempt (wpAny_holding ?_)))
 unfold callGetattribute
 rw[show (expr&&onTheHeap (Value.builtin "BaseException.__getattribute__"))=false from Bool.and_false _,if_neg Bool.false_ne_true]
 unfold boundAndCalled
 rw[slot.bind]
 refine wpAny_bind (wpAny_pure ?_)
 show wpAny _ _ (call (.builtin "BaseException.__getattribute__") [.ref x,.str name t]) _ _ _
 refine wpAny_call (codeAny_call_builtin slot.plain entry_bga ?_)
 refine @PySem.W.check_slot (model prog w) _ _ ⟨hp,g,d,t+1,os⟩ "BaseException.__getattribute__" "BaseException" "__getattribute__" (.ref x) [.str name t] [] _ (by decide +kernel) (by decide +kernel) (L0.andThen L4) (F.args_bexc_ga (.ref x) (.str name t)) ?_
 refine wpAny_bind (wpAny_pure (wpAny_bind (wpAny_pure (wpAny_bind (L0.at (wpAny_bind (L3.at (wpAny_pure ?_))))))))
 show wpAny _ _ (handedOut u) _ _ _
 rw[PySem.W.handedOut_of hh]
 exact wpAny_pure h
theorem xset {y:V}{u:Value}{Q:Unit→Shared→Prop}(I:Inv X pins σ H s)(x:XAt H e C fs)(c:Xc X.K C)(n:NoAttr X.K C f)(hz:fs.length<1000)(ry:RelV y u)
  (h:∀s' H',Inv X pins σ H' s'→XAt H' e C (putF f y fs)→(∀b o,H b=some o→b≠e→(∀d,H e=some (xo e C (some d))→b≠d)→H' b=some o) →
   (∃d,H' e=some (xo e C (some d))∧(H e=some (xo e C (some d))∨H d=none))→Q () s'):wpAny (model X.prog X.w) A (setAttr (.ref e) f u) Q E s:=by
 obtain⟨ox,od,J,hr⟩:=x.inst I
 obtain⟨cd,hc,hd'⟩:=PySem.W.any_some c.hd
 obtain⟨cd',hc2,hm⟩:=PySem.W.any_some c.mr
 rw[hc]at hc2;cases hc2
 refine PySem.W.set_plain I.kIn J c.sa ?_
 have SF:=PySem.F.store_object
 have hne:=xmro_ne hm
 have KX:X.K.In ({ s with toks:=s.toks+1 }:Shared).heap:=I.kIn
 have J1:InstAt ({ s with toks:=s.toks+1 }:Shared).heap e ox C od:=J
 have L1:Looks (model X.prog X.w) s.heap (mroOf (.ref C)) cd.mro:=(PySem.W.looks_clsIn I.kIn hc).andThen .now
 have sub:Looks (model X.prog X.w) s.heap (isInstance (.ref e) (.type "object")) true:=J.type.andThen (PySem.W.looks_mroIn I.kIn (c.base (n:="object") (b:=true) (by decide +kernel)))
 refine codeAny_call_builtin SF.slot.plain SF.entry (@PySem.W.check_slot (model X.prog X.w) _ _ { s with toks:=s.toks+1 } "object.__setattr__" "object" "__setattr__" (.ref e) [.str f s.toks,u] [] _ SF.kind SF.split sub (SF.args (.ref e) (.str f s.toks) u) ?_)
 rw[PySem.W.osa_eq,refuse_eq]
 refine wpAny_bind (wpAny_bind (Looks.here (s:={ s with toks:=s.toks+1 }) J.type (wpAny_bind (Looks.here (s:={ s with toks:=s.toks+1 }) L1 ?_))))
 rw[refuse_x _ hm]
 refine wpAny_pure (wpAny_bind (Looks.here (s:={ s with toks:=s.toks+1 }) J.type (wpAny_bind (Looks.here (s:={ s with toks:=s.toks+1 }) (PySem.W.looks_findIn I.kIn n) (wpAny_bind (wpAny_pure ?_))))))
 dsimp only
 refine wpAny_bind (wpAny_pure (wpAny_bind (wpAny_bind ?_)))
 have LC:=PySem.W.looks_clsIn (M:=model X.prog X.w) I.kIn hc
 cases x with
 | bare hb=>
  obtain⟨o,t,h1,h2,h3,h4⟩:=xo_obj I hb
  obtain⟨oc,odi,oda,osl⟩:=o
  dsimp only at h2 h3 h4
  subst h2 h3 h4
  refine wpAny_loadPart h1 (wpAny_bind (Looks.here (s:={ s with toks:=s.toks+1 }) LC ?_))
  rw[hd']
  refine wpAny_bind (wpAny_alloc (wpAny_bind (wpAny_update (Heap.get?_push_of_some _ h1) (wpAny_pure ?_))))
  dsimp only
  refine wpAny_bind (wpAny_pure (wpAny_bind ?_))
  have hlt:e<s.heap.objs.size:=Heap.lt_size h1
  have hfr:=I.fresh
  have hed:s.heap.objs.size≠e:=Nat.ne_of_gt hlt
  have ee:(s.heap.push PySem.W.emptyDict).get? s.heap.objs.size=some PySem.W.emptyDict:=Heap.get?_push_size s.heap rfl
  have e2:((s.heap.push PySem.W.emptyDict).update e fun o=>{ o with dict:=some s.heap.objs.size }).get? e=some ⟨.ref C,some s.heap.objs.size,.fields #[.ref t,.none,.none,.none,.bool false,.none],osl⟩:=Heap.get?_update_self _ (Heap.get?_push_of_some _ h1) rfl
  have e3:((s.heap.push PySem.W.emptyDict).update e fun o=>{ o with dict:=some s.heap.objs.size }).get? s.heap.objs.size=some PySem.W.emptyDict:=by
   rw[Heap.get?_update_other _ _ (Ne.symm hed)];exact ee
  have ns:((s.heap.push PySem.W.emptyDict).update e fun o=>{ o with dict:=some s.heap.objs.size }).Ns s.heap.objs.size (fun _=>none):=⟨PySem.W.emptyDict,#[],_,e3,rfl,(fun e he=>absurd he (by simp)),fun _=>rfl⟩
  have ns1:=Heap.Ns1.of_empty ns
  have I1:=I.laid (a:=s.heap.objs.size) (o:=xdO s.heap.objs.size []) (h':=s.heap.push PySem.W.emptyDict) (t':=s.toks+1) (fun b u q=>Heap.get?_push_of_some _ q) (Nat.le_refl _)
   (xdO_ok (fs:=[]) (Nat.zero_le _) (Heap.Ns1.of_empty (h:=s.heap.push PySem.W.emptyDict) ⟨PySem.W.emptyDict,#[],_,ee,rfl,(fun e he=>absurd he (by simp)),fun _=>rfl⟩) (fun _=>by trivial) (fun y hy=>absurd rfl hy))
  have I2:=I1.write (x:=e) (e:=e) (o:=xo e C (some s.heap.objs.size)) (h':=(s.heap.push PySem.W.emptyDict).update e fun o=>{ o with dict:=some s.heap.objs.size }) (t':=s.toks+1)
   (by rw[upd_ne (Ne.symm hed),hb];exact trivial) (.inl rfl) (fun b u hbe q=>by rw[Heap.get?_update_other _ _ (Ne.symm hbe)];exact q) ⟨_,e2⟩ (xo_ok e2 rfl rfl rfl)
  refine wpAny_nsSet1 (s:={ s with heap:=(s.heap.push PySem.W.emptyDict).update e fun o=>{ o with dict:=some s.heap.objs.size },toks:=s.toks+1 }) ns1 fun h' hn2 hs2=>?_
  have hw:PySem.Within (fun x=>if x=f then some u else none) [f]:=fun z hz=>by
   by_cases q:z=f
   ·rw[q];exact List.mem_cons_self
   ·exact absurd (if_neg q) hz
  obtain⟨oD,esD,epD,hoD,hdD,hcD⟩:=hn2.count hw
  refine wpAny_bind (wpAny_lookBehind hoD (by rw[hdD];exact pastItsLine_dict (Nat.le_trans hcD (by rw[List.length_singleton,sizeLine_eq];decide))) ?_)
  refine wpAny_pure (h _ _ (I2.write (x:=s.heap.objs.size) (e:=s.heap.objs.size) (o:=xdO s.heap.objs.size [(f,y)]) (h':=h') (t':=s.toks+1+1) ?_ (.inl rfl) (fun b u' hb' q=>(hs2.2 b hb').trans q) ⟨oD,hoD⟩ (xdO_ok (by show 1≤1000;decide) hn2 ?_ hw)) ?_ ?_ ⟨_,(by rw[upd_ne (Ne.symm hed),upd_same]),.inr hfr⟩)
  ·rw[upd_ne hed,upd_same];exact trivial
  ·intro g
   show RelO (List.lookup g [(f,y)]) (if g=f then some u else none)
   by_cases q:g=f
   ·rw[if_pos q,q];simp[List.lookup_cons];exact ry
   ·have hbq:(g == f)=false:=by simpa using q
    rw[if_neg q];simp[List.lookup_cons,hbq];trivial
  ·refine .full (d:=s.heap.objs.size) (by rw[upd_ne (Ne.symm hed),upd_same]) ?_ hed
   rw[upd_same];rfl
  ·intro b o' hb' hbe _
   have nb:b≠s.heap.objs.size:=ne_of_none hb' hfr
   rw[upd_ne nb,upd_ne hbe,upd_ne nb]
   exact hb'
 | @full d _ hb hd2 hne2=>
  obtain⟨o,t,h1,h2,h3,h4⟩:=xo_obj I hb
  obtain⟨oc,odi,oda,osl⟩:=o
  dsimp only at h2 h3 h4
  subst h2 h3 h4
  obtain⟨⟨hz',mA,hn,hr',hw⟩,_⟩:=I.hok d _ hd2
  refine wpAny_loadPart h1 (wpAny_bind (Looks.here (s:={ s with toks:=s.toks+1 }) LC ?_))
  rw[hd']
  refine wpAny_pure ?_
  dsimp only
  refine wpAny_bind (wpAny_pure (wpAny_bind ?_))
  refine wpAny_nsSet1 (s:={ s with toks:=s.toks+1 }) hn fun h' hn2 hs2=>?_
  obtain⟨oD,esD,epD,hoD,hdD,hcD⟩:=hn2.count (PySem.Within.cons f u hw)
  refine wpAny_bind (wpAny_lookBehind hoD (by rw[hdD];exact pastItsLine_dict (Nat.le_trans hcD (by rw[List.length_cons,List.length_map,sizeLine_eq];omega))) ?_)
  refine wpAny_pure (h _ _ (I.write (x:=d) (e:=d) (o:=xdO d (putF f y fs)) (h':=h') (t':=s.toks+1+1) (by rw[hd2];exact trivial) (.inl rfl) (fun b u' hb' q=>(hs2.2 b hb').trans q) ⟨oD,hoD⟩ (xdO_ok ?_ hn2 ?_ ?_)) ?_ ?_ ⟨d,(by rw[upd_ne (Ne.symm hne2)];exact hb),.inl hb⟩)
  ·have:=length_putF f y fs;omega
  ·intro g
   show RelO ((putF f y fs).lookup g) (if g=f then some u else mA g)
   rw[lookup_putF]
   by_cases q:g=f
   ·rw[if_pos q,if_pos q];exact ry
   ·rw[if_neg q,if_neg q];exact hr' g
  ·intro g hg
   by_cases q:g=f
   ·rw[q];exact(keys_putF f y fs).1
   ·refine(keys_putF f y fs).2 g (hw g fun z=>hg ?_)
    show (if g=f then some u else mA g)=none
    rw[if_neg q];exact z
  ·exact .full (d:=d) (by rw[upd_ne (Ne.symm hne2)];exact hb) upd_same hne2
  ·intro b o' hb' hbe hbd
   rw[upd_ne (hbd d hb)]
   exact hb'
end
abbrev xraw (C t:Addr):Obj:={ cls:=.ref C,data:=.fields #[.ref t,.none,.none,.none,.bool false,.none] }
abbrev tupO (vs:List Value):Obj:={ cls:=.type "tuple",data:=.seq vs.toArray }
structure Xm (K:Frag)(C:Addr):Prop where
 c:Xc K C
 ob:∃(nm q:Str) (N:Addr) (bs bm:List Value) (hdct:Bool) (sn:List Str) (sub:List Value) (ab:Bool) (col:Option Bool) (dd:Option Addr) (k0 k1 k2 k3 k5:Option Value),
  K.lookup C=some (excClassObj nm q C N bs bm hdct sn sub ab col dd k0 k1 k2 k3 k5 "ValueError.__new__")
 kp:PySem.W.keepIn K (.ref C)=true
section
variable {prog:Program}{w:World}{A:Around}{E:Value→Shared→Prop}{h:Heap}{g:Array GenState}{d:Drawn}{t:Nat}{os:OsState}{K:Frag}
variable {nm q:Str}{C N:Addr}{bs bm:List Value}{hdct:Bool}{sn:List Str}{sub:List Value}{ab:Bool}{col:Option Bool}{dd:Option Addr}{k0 k1 k2 k3 k5:Option Value}
theorem xnew_check {M:Model} {rest:List Value} {Q:Unit→Shared→Prop} (hx:xmro (.ref C::bm)=true) (hC:h.get? C=some (excClassObj nm q C N bs bm hdct sn sub ab col dd k0 k1 k2 k3 k5 "ValueError.__new__"))
  (hq:Q () ⟨h,g,d,t,os⟩):wpAny M A (checkBuiltinCall "ValueError.__new__" ⟨.ref C::rest,[]⟩) Q E ⟨h,g,d,t,os⟩:=by
 have Fn:=F.excBase_ValueError
 have hcB:=xmro_has (n:="ValueError") (b:=true) (by decide +kernel) hx
 have hstar:=Fn.noStar
 simp only[checkBuiltinCall,Fn.newKind,Fn.newSplit,Fn.newRow]
 repeat (first | refine wpAny_loadPart_at hC ?_ | (refine wpAny_isSubtype_exc hC ?_;rw[hcB]) | refine wpAny_staticBase_exc hC ?_ | refine wpAny_madeBy_exc hC ?_ | simp only[bne_self_eq_false,Bool.false_eq_true,if_false] | wp_step)
 exact hq
theorem xnew {R:Result→Shared→Prop} {rest:List Value} (hx:xmro (.ref C::bm)=true) (hC:h.get? C=some (excClassObj nm q C N bs bm hdct sn sub ab col dd k0 k1 k2 k3 k5 "ValueError.__new__"))
  (hq:R (.ok (.ret (.ref (h.objs.size+1)))) ⟨(h.push (tupO rest)).push (xraw C h.objs.size),g,d,t,os⟩) (hrest:rest.length≤sizeLine):
  codeAny (model prog w) A (.builtin "ValueError.__new__" ⟨.ref C::rest,[]⟩) R ⟨h,g,d,t,os⟩:=by
 have Fn:=F.excBase_ValueError
 have hends:=Fn.ends
 have hcB:=xmro_has (n:="ValueError") (b:=true) (by decide +kernel) hx
 have hcA:=xmro_has (n:="AttributeError") (b:=false) (by decide +kernel) hx
 have hcN:=xmro_has (n:="NameError") (b:=false) (by decide +kernel) hx
 refine codeAny_builtinAt Fn.entry ?_
 unfold Builtin.«BaseException.__new__»
 refine PySem.wpAt_bind ?_
 show PySem.wpAt _ _ _ (stack >>= _) _ _ _
 refine PySem.wpAt_bind (PySem.wpAt_stack fun p below=>PySem.wpAt_of_wpAny ?_)
 wp_walk
 refine PySem.wpAt_of_wpAny ?_
 rw[Fn.owner]
 repeat (first | with_reducible refine wpAny_madeHere_exc Fn.canon hC ?_ | with_reducible refine wpAny_loadPart_at hC ?_ | (with_reducible refine wpAny_isSubtype_exc hC ?_;first | rw[hcB] | rw[hcA] | rw[hcN]) | wp_step)
 show R _ _
 rw[Heap.size_push]
 exact hq
theorem xcall {R:Result→Shared→Prop} {rest:List Value} {init:Value} (KX:K.In h) (hx:xmro (.ref C::bm)=true) (hC:h.get? C=some (excClassObj nm q C N bs bm hdct sn sub ab col dd k0 k1 k2 k3 k5 "ValueError.__new__"))
  (hi:Looks (model prog w) h (typeLookup (.ref C) "__init__") (some init)) (hb:∀self,Looks (model prog w) h (bindSpecial init self) (init,[self])) (hrest:rest.length≤sizeLine)
  (hq:codeAny (model prog w) (A.under (.builtin "type.__call__" ⟨.ref C::rest,[]⟩)) (.call init ⟨.ref (h.objs.size+1)::rest,[]⟩) (PySem.W.InitBack (h.objs.size+1) R) ⟨(h.push (tupO rest)).push (xraw C h.objs.size),g,d,t,os⟩):
  codeAny (model prog w) A (.call (.ref C) ⟨rest,[]⟩) R ⟨h,g,d,t,os⟩:=by
 have f1:=tc_lookup
 have f2:=tc_bind (.ref C)
 have hT:(⟨h,g,d,t,os⟩:Shared).TypeIs (.ref C) "type":=⟨_,hC,rfl⟩
 have Fn:=F.excBase_ValueError
 refine codeAny_of_tree ?_
 show wpAny _ _ (callAny (.ref C) _) _ _ _
 repeat (any_goals (first | assumption | with_reducible refine wpAny_loadPart_at hC ?_ | wp_step))
 refine⟨rfl,?_⟩
 refine codeAny_call_builtin_at (Code.quiet_builtin _ (by decide +kernel)) entry_typeCall (wpAny_check_type_call_sub hC ?_)
 repeat (first | with_reducible refine wpAny_loadPart_at hC ?_ | with_reducible refine wpAny_madeBy_exc hC ?_ | wp_step)
 refine codeAny_call_builtin_code (Code.quiet_builtin _ Fn.quiet) (xnew_check hx hC ?_)
 refine xnew hx hC ?_ hrest
 show wpAny _ _ _ _ _ _
 have k:∀b o,h.get? b=some o→((h.push (tupO rest)).push (xraw C h.objs.size)).get? b=some o:=fun b o e=>Heap.get?_push_of_some _ (Heap.get?_push_of_some _ e)
 have hC1:=k _ _ hC
 have hget:((h.push (tupO rest)).push (xraw C h.objs.size)).get? (h.objs.size+1)=some { cls:=.ref C,data:=.fields #[.ref h.objs.size,.none,.none,.none,.bool false,.none] }:=by heap_get
 have hcC:(Value.ref C::bm).contains (.ref C)=true:=by simp
 have i1:=hi.keeps k
 have b1:=(hb (.ref (h.objs.size+1))).keeps k
 have t1:Looks (model prog w) ((h.push (tupO rest)).push (xraw C h.objs.size)) (typeOf (.ref (h.objs.size+1))) (.ref C):=(Looks.ld hget).andThen .now
 unfold isInstance
 repeat (first | with_reducible refine wpAny_loadPart_at hget ?_ | (with_reducible refine wpAny_isSubtype_exc hC1 ?_;rw[hcC]) | wp_step)
 refine wpAny_isSubtype_exc hC1 ?_
 rw[hcC]
 repeat (first | with_reducible refine wpAny_loadPart_at hget ?_ | wp_step)
 show wpAny _ _ (typeLookup (.ref C) _) _ _ _
 refine i1.at (wpAny_holding (wpAny_bind (b1.at ?_)))
 refine wpAny_bind (wpAny_call ?_)
 refine codeAny_mono hq fun r s' z=>?_
 rcases r with e | (v | _ | _ | _)<;>first | exact z | exact z.elim | skip
 obtain⟨rfl,z⟩:=z
 exact wpAny_pure (wpAny_pure z)
end
section
variable {X:Cx}{pins:List (Addr×Obj)}{σ:St}{H:Hp}{s:Shared}{C:Addr}{us:List Value}{vs:List V}{Q:VK}
theorem Inv.xmade (I:Inv X pins σ H s):Inv X pins σ (upd H (s.heap.objs.size+1) (xo (s.heap.objs.size+1) C none)) { s with heap:=(s.heap.push (tupO us)).push (xraw C s.heap.objs.size) }:=by
 have I1:Inv X pins σ H { s with heap:=s.heap.push (tupO us) }:=I.kept (t':=s.toks) fun b o e=>Heap.get?_push_of_some _ e
 have e2:((s.heap.push (tupO us)).push (xraw C s.heap.objs.size)).get? (s.heap.objs.size+1)=some (xraw C s.heap.objs.size):=by
  have:=Heap.get?_push_size (s.heap.push (tupO us)) (o:=xraw C s.heap.objs.size) rfl
  rwa [Heap.size_push]at this
 exact I1.laid (a:=s.heap.objs.size+1) (t':=s.toks) (fun b u q=>Heap.get?_push_of_some _ q) (Nat.le_of_eq (Heap.size_push _ _)) (xo_ok e2 rfl rfl rfl)
theorem xinit_run {e:Addr}{d:Option Addr}{R:Result→Shared→Prop}(I:Inv X pins σ H s)(m:Xm X.K C)(hx:H e=some (xo e C d))(hz:us.length≤sizeLine)(A:Around)
    (h:∀s',Inv X pins σ H s'→R (.ok (.ret .none)) s'):codeAny (model X.prog X.w) A (.call (.builtin "ValueError.__init__") ⟨.ref e::us,[]⟩) R s:=by
  have Fn:=F.excBase_ValueError
  have c:=m.c
  obtain⟨nm,qn,N,bs,bm,hdct,sn,sub,ab,col,dd,k0,k1,k2,k3,k5,lC⟩:=m.ob
  have hC:=I.kIn _ _ lC
  obtain⟨o,t,h1,h2,h3,h4⟩:=xo_obj I hx
  obtain⟨oc,od,oda,osl⟩:=o
  dsimp only at h2 h3 h4
  subst h2 h3 h4
  have L:Looks (model X.prog X.w) s.heap (isInstance (.ref e) (.type "ValueError")) true:=((Looks.ld h1).andThen .now).andThen (PySem.W.looks_mroIn I.kIn (c.base (n:="ValueError") (b:=true) (by decide +kernel)))
  obtain⟨hp,g,dr,tk,os⟩:=s
  refine codeAny_call_builtin Fn.init.plain Fn.initEntry ?_
  have hshort:=Fn.noStar
  simp only[checkBuiltinCall,Fn.initKind,Fn.initSplit,Fn.initRow]
  refine wpAny_bind (L.at ?_)
  simp only[Bool.not_true,Bool.false_eq_true,if_false]
  have fin:wpAny (model X.prog X.w) A.in1 (Builtin.«BaseException.__init__» ⟨.ref e::us,[]⟩) (fun fin s'=>match fin with | .done f=>R (.ok f) s' | .again c'=>c'.quiet=true∧codeAny (model X.prog X.w) A c' R s') (fun e s'=>R (.error e) s') ⟨hp,g,dr,tk,os⟩:=by
    have hlt:e<hp.objs.size:=Heap.lt_size h1
    wp_walk
    refine h _ ?_
    have I1:Inv X pins σ H { (⟨hp,g,dr,tk,os⟩:Shared) with heap:=hp.push (tupO us) }:=I.kept (t':=tk) fun b o e=>Heap.get?_push_of_some _ e
    have e2:=Heap.get?_update_self (Obj.mapFields (·.setIfInBounds 0 (Value.ref hp.objs.size))) (Heap.get?_push_of_some (h:=hp) (tupO us) h1) rfl
    have I2:=I1.write (x:=e) (e:=e) (o:=xo e C od) (h':=(hp.push (tupO us)).update e (Obj.mapFields (·.setIfInBounds 0 (Value.ref hp.objs.size)))) (t':=tk) (by rw[hx];exact trivial) (.inl rfl)
      (fun b u hb q=>by rw[Heap.get?_update_other _ _ (Ne.symm hb)];exact q) ⟨_,e2⟩ (xo_ok e2 rfl rfl rfl)
    rw[upd_id hx]at I2
    exact I2
  repeat (first | with_reducible refine wpAny_loadPart_at hC ?_ | (with_reducible refine wpAny_load hC ?_) | with_reducible refine wpAny_loadPart_at h1 ?_ | wp_step)
  first
    | (refine wpAny_onRaise ?_
       rw[show ∀(a b:String) (n:Nat),Bind.check ⟨.positional,"*","ValueError",.self,[⟨"args",.varPos,false⟩]⟩ a b n (List.map (fun x=>x.fst) ({ pos:=Value.ref e::us }:Args).kw)=pure () from fun a b n=>check_star_args _ _ _ _ _ _]
       exact wpAny_pure fin)
    | skip
end
structure Xi (K:Frag)(C:Addr):Prop where
 c:Xc K C
 ha:findIn K (.ref C) "__class__"=some (some (.builtin "object.__class__"))
 hn:specialIn K (.builtin "object.__class__") "__get__"=some (some (.builtin "getset_descriptor.__get__"))
 htk:PySem.W.takesIn K (.builtin "object.__class__")=some true
section
variable {K:Frag}{x C:Addr}{ox:Obj}{od:Option Obj}{prog:Program}{w:World}{A:Around}{E:Value→Shared→Prop}{s:Shared}
theorem xclass {Q:Option Value→Shared→Prop}(i:Xi K C)(KX:K.In s.heap)(I:InstAt s.heap x ox C od)(h:Q (some (.ref C)) { s with toks:=s.toks+1 }):wpAny (model prog w) A (getAttr? (.ref x) "__class__") Q E s:=by
 have c:=i.c
 have hf:PySem.W.findObj K C od "__class__"=some (.bind (.builtin "getset_descriptor.__get__") (.builtin "object.__class__")):=by
  obtain⟨cd,hc,_⟩:=PySem.W.any_some c.hd
  unfold PySem.W.findObj
  rw[hc,i.ha]
  simp only[Option.bind_some,i.hn,i.htk]
 obtain⟨hp,g,d,t,os⟩:=s
 have L0:=I.type (M:=model prog w)
 have L1:=PySem.W.looks_findIn (M:=model prog w) KX c.ga
 have L2:=PySem.W.looks_findIn (M:=model prog w) KX c.gr
 have L3:=PySem.W.looks_find (M:=model prog w) KX I hf
 have L4:=PySem.W.looks_mroIn (M:=model prog w) KX (c.base (n:="BaseException") (b:=true) (by decide +kernel))
 have hm:=c.base (n:="object") (b:=true) (by decide +kernel)
 have hx2:(Value.builtin "BaseException.__getattribute__" == Value.builtin "object.__getattribute__")=false:=by decide +kernel
 have slot:=F.excAttr_ValueError.ga
 unfold getAttr? getAttrBy?
 refine wpAny_bind (wpAny_mkText (wpAny_bind (wpAny_attempt ?_)))
 unfold getAttrBy
 refine wpAny_holding (wpAny_bind (L0.at (wpAny_bind (L1.at ?_))))
 dsimp only
 rw[hx2,Bool.and_false,if_neg Bool.false_ne_true]
 unfold getAttrByItsOwn hookBefore
 refine wpAny_bind ?_
 show wpAny _ _ (if onTheHeap (Value.ref C)=true then typeLookup (.ref C) "__getattr__" else pure none) _ _ _
 rw[if_pos (show onTheHeap (Value.ref C)=true from rfl)]
 refine L2.at (wpAny_bind (wpAny_attempt (wpAny_holding ?_)))
 unfold callGetattribute
 rw[show (false&&onTheHeap (Value.builtin "BaseException.__getattribute__"))=false from rfl,if_neg Bool.false_ne_true]
 unfold boundAndCalled
 rw[slot.bind]
 refine wpAny_bind (wpAny_pure ?_)
 show wpAny _ _ (call (.builtin "BaseException.__getattribute__") [.ref x,.str "__class__" t]) _ _ _
 refine wpAny_call (codeAny_call_builtin slot.plain entry_bga ?_)
 refine @PySem.W.check_slot (model prog w) _ _ ⟨hp,g,d,t+1,os⟩ "BaseException.__getattribute__" "BaseException" "__getattribute__" (.ref x) [.str "__class__" t] [] _ (by decide +kernel) (by decide +kernel) (L0.andThen L4) (F.args_bexc_ga (.ref x) (.str "__class__" t)) ?_
 refine wpAny_bind (wpAny_pure (wpAny_bind (wpAny_pure (wpAny_bind (L0.at (wpAny_bind (L3.at ?_)))))))
 show wpAny _ _ (holding [.builtin "object.__class__"] (call (.builtin "getset_descriptor.__get__") [.builtin "object.__class__",.ref x,.ref C]) >>= ret) _ _ _
 refine wpAny_bind (wpAny_holding (wpAny_call (PySem.W.class_get (s:=⟨hp,g,d,t+1,os⟩) (ox:=ox) (od:=od) KX I hm (wpAny_pure ?_))))
 exact PySem.W.handed_on rfl (wpAny_pure h)
theorem kitx_exc (i:Xi K C):PySem.W.KitX K (.ref x) (.ref C) (fun h=>InstAt h x ox C od) where
 ty:=fun _ _ _ I=>I.type
 it:=fun _ _ KX _=>by
  obtain⟨cd,hc,_⟩:=PySem.W.any_some i.c.hd
  unfold PySem.W.clsIn at hc
  split at hc
  ·rename_i ho
   intro A' Q' E' s' k q
   unfold isType loadHead
   exact wpAny_bind (wpAny_loadPart (k _ _ (KX _ _ ho)) (wpAny_pure q))
  ·cases hc
 ne:=fun h tp dd its n sl KX htp=>by
  obtain⟨cd,hc,_⟩:=PySem.W.any_some i.c.hd
  refine Bool.eq_false_iff.mpr fun q=>?_
  have e:C=tp:=Value.ref.inj (beq_iff_eq.mp q)
  subst e
  unfold PySem.W.clsIn at hc
  split at hc
  ·rename_i ho
   have z:=(KX _ _ ho).symm.trans htp
   cases z
  ·cases hc
 ca:=fun KX I k=>xclass i KX I k
end
inductive TyX (K:Frag) (H:Hp):V→Value→Prop where
 | pl {x:V} {t:Value} (h:TyOf K H x t):TyX K H x t
 | seqL {a:Addr} {xs:List V} (h:SqL K H a xs):TyX K H (.ref a) (.type "list")
 | seqT {a:Addr} {xs:List V} (h:SqT K H a xs):TyX K H (.ref a) (.type "tuple")
 | exc {e C:Addr} {fs:List (Str×V)} (x:XAt H e C fs) (i:Xi K C):TyX K H (.ref e) (.ref C)
def clsV:V→Option Value
 | .ref a=>some (.ref a)
 | .ty n=>some (.type n)
 | _=>none
theorem call_isinst {X:Cx}:CallR X (.builtin "isinstance") (fun xs H Q=>∃x c t k b,xs=[x,c]∧clsV c=some k∧TyX X.K H x t∧PySem.W.kitOne X.K t k=some b∧Q (.bl b) H):=by
 rintro pins s σ H xs us Q I r ⟨x,c,t,k,b,rfl,hk,ty,e,q⟩
 obtain⟨u,v,rfl,ru,rv⟩:=r.two
 have hv:v=k:=by
  cases c with
  | ref a=>cases hk;exact rv
  | ty n=>cases hk;exact rv
  | _=>cases hk
 subst hv
 cases ty with
 | pl ty=>exact isinst_ok I ru ty e fun tk=>⟨.bl b,H,I.tok _,rfl,q⟩
 | seqL h=>
  cases ru
  obtain⟨its,_,⟨o,n,ho,hc,_⟩,_⟩:=I.list h
  exact PySem.W.kia_one PySem.W.kitx_list I.kIn ⟨o,ho,hc⟩ e (fun z=>nomatch z) fun tk=>⟨.bl b,H,I.tok _,rfl,q⟩
 | seqT h=>
  cases ru
  obtain⟨its,_,⟨o,ho,hc,_⟩,_⟩:=I.tuple h
  exact PySem.W.kia_one PySem.W.kitx_tuple I.kIn ⟨o,ho,hc⟩ e (fun z=>nomatch z) fun tk=>⟨.bl b,H,I.tok _,rfl,q⟩
 | exc x i=>
  cases ru
  obtain⟨ox,od,J,_⟩:=x.inst I
  exact PySem.W.kia_one (kitx_exc i) I.kIn J e (fun z=>nomatch z) fun tk=>⟨.bl b,H,I.tok _,rfl,q⟩
def tXFld (K:Frag)(ta:TE)(f:Str):TE:=fun σ H Q=>ta σ H fun x H1=>∃e C fs v,x=.ref e∧XAt H1 e C fs∧Xc K C∧NoAttr K C f∧fs.lookup f=some v∧Q v H1
def sXFld (K:Frag)(ta tv:TE)(f:Str):TS:=fun D σ H=>tv σ H fun y H1=>ta σ H1 fun x H2=>∃e C fs,x=.ref e∧XAt H2 e C fs∧Xc K C∧NoAttr K C f∧fs.length<1000 ∧
 ∀H',XAt H' e C (putF f y fs)→(∀b o,H2 b=some o→b≠e→(∀d,H2 e=some (xo e C (some d))→b≠d)→H' b=some o)→(∃d,H' e=some (xo e C (some d))∧(H2 e=some (xo e C (some d))∨H2 d=none))→D.nx σ H'
def tXMake0 (K:Frag)(C:Addr)(t:TA):TE:=fun σ H Q=>t σ H fun vs H1=>vs.length≤1000∧∀e,H1 e=none→Q (.ref e) (upd H1 e (xo e C none))
def tXMake (C:Addr)(sp:Sp)(E:XK)(t:TA):TE:=fun σ H Q=>t σ H fun vs H1=>vs.length≤1000∧∀e,H1 e=none→sp (.ref e::vs) (upd H1 e (xo e C none)) (fun v H2=>v=.non∧Q (.ref e) H2) E
section
variable {X:Cx}{o e value:Expr}{es:List Expr}{f x:Str}{p pos pos':Pos}{ta tv:TE}{t:TA}{C fI:Addr}
theorem ps_xfld (ha:PE X o ta)(hv:PE X value tv)(hs:swapsWith value (some (.Attribute o f pos')) pos.line X.env=pure false):PS X (.Assign [.Attribute o f pos'] value pos) (sXFld X.K ta tv f):=by
 intro pins s σ H D I h
 refine plainObj_wpAny_Assign_Attribute (thn (hv pins s σ H _ I h) fun u s1 ⟨y,H1,I1,ry,q⟩=>thn (ha pins s1 σ H1 _ I1 q) fun ov s2 ⟨x,H2,I2,rx,a,C,fs,ex,xa,c,n,l,q2⟩=>?_) hs
 subst ex
 obtain rfl:ov=Value.ref a:=rx
 exact xset I2 xa c n l ry fun s3 H3 I3 x3 k3 d3=>⟨σ,H3,I3,q2 H3 x3 k3 d3⟩
theorem Xm.parts {K:Frag}{C:Addr}(m:Xm K C):∃(nm q:Str) (N:Addr) (bs bm:List Value) (hdct:Bool) (sn:List Str) (sub:List Value) (ab:Bool) (col:Option Bool) (dd:Option Addr) (k0 k1 k2 k3 k5:Option Value),
  K.lookup C=some (excClassObj nm q C N bs bm hdct sn sub ab col dd k0 k1 k2 k3 k5 "ValueError.__new__")∧xmro (.ref C::bm)=true:=by
 obtain⟨nm,qn,N,bs,bm,hdct,sn,sub,ab,col,dd,k0,k1,k2,k3,k5,lC⟩:=m.ob
 refine⟨nm,qn,N,bs,bm,hdct,sn,sub,ab,col,dd,k0,k1,k2,k3,k5,lC,?_⟩
 have hm:=m.c.mr
 unfold PySem.W.clsIn at hm
 rw[lC]at hm
 exact hm
theorem run_xmake0 {pins:List (Addr×Obj)} {σ:St} {H:Hp} {s:Shared} {Q:VK} {us:List Value} (m:Xm X.K C) (hi:findIn X.K (.ref C) "__init__"=some (some (.builtin "ValueError.__init__"))) (I:Inv X pins σ H s) (hz:us.length≤1000)
  (h:∀e,H e=none→Q (.ref e) (upd H e (xo e C none))):wpAny (model X.prog X.w) X.A (call (.ref C) us) (EP X pins σ Q) X.xe s:=by
 obtain⟨nm,qn,N,bs,bm,hdct,sn,sub,ab,col,dd,k0,k1,k2,k3,k5,lC,hx⟩:=m.parts
 have I2:=Inv.xmade (C:=C) (us:=us) I
 have hq:=h (s.heap.objs.size+1) (I.hok.fresh (Nat.le_succ _))
 have hz':us.length≤sizeLine:=Nat.le_trans hz (by rw[sizeLine_eq];decide)
 have KX:=I.kIn
 have hC:=KX _ _ lC
 obtain⟨hp,g,d,t,os⟩:=s
 refine wpAny_call (xcall (K:=X.K) KX hx hC (PySem.W.looks_findIn KX hi) (fun self=>Looks.of_pure (F.excBase_ValueError.init.bind self)) hz' ?_)
 refine xinit_run I2 m upd_same hz' _ fun s' I3=>⟨rfl,?_⟩
 exact⟨.ref _,_,I3,rfl,hq⟩
theorem run_xmake {CX:CXT} {k:Nat} {fd:FuncData} {ps:List Str} {sp:Sp} {E:XK} {pins:List (Addr×Obj)} {σ:St} {H:Hp} {s:Shared} {Q:VK} {us:List Value} {vs:List V} (m:Xm X.K C) (hi:findIn X.K (.ref C) "__init__"=some (some (.ref fI))) (hfn:PySem.W.isFn X.K (.ref fI)=true)
  (F:FnOk X.prog X.w X.K X.mg X.base CX k fI fd ps sp) (hr:Room (k+1) X.A) (hb:Binds X.K fd ps []) (hxp:Passes CX X E) (I:Inv X pins σ H s) (r:Vals vs us) (hz:vs.length≤1000)
  (h:∀e,H e=none→sp (.ref e::vs) (upd H e (xo e C none)) (fun v H2=>v=.non∧Q (.ref e) H2) E):wpAny (model X.prog X.w) X.A (call (.ref C) us) (EP X pins σ Q) X.xe s:=by
 obtain⟨nm,qn,N,bs,bm,hdct,sn,sub,ab,col,dd,k0,k1,k2,k3,k5,lC,hx⟩:=m.parts
 have I2:=Inv.xmade (C:=C) (us:=us) I
 have hq:=h (s.heap.objs.size+1) (I.hok.fresh (Nat.le_succ _))
 have hz':us.length≤sizeLine:=by rw[←r.length];exact Nat.le_trans hz (by rw[sizeLine_eq];decide)
 have KX:=I.kIn
 have hC:=KX _ _ lC
 have r2:Vals (V.ref (s.heap.objs.size+1)::vs) (Value.ref (s.heap.objs.size+1)::us):=.cons rfl r
 have hl:((Value.ref (s.heap.objs.size+1)::us)++[]).length=ps.length:=by
  have e:=r2.length
  rw[F.len _ _ _ _ hq]at e
  rw[List.append_nil]
  exact e.symm
 have hb2:=hb { s with heap:=(s.heap.push (tupO us)).push (xraw C s.heap.objs.size) } (Value.ref (s.heap.objs.size+1)::us) I2.kIn hl
 rw[List.append_nil]at hb2
 obtain⟨hp,g,d,t,os⟩:=s
 refine wpAny_call (xcall (K:=X.K) KX hx hC (PySem.W.looks_findIn KX hi) (fun self=>PySem.W.bind_fn KX self (beq_iff_eq.mp hfn)) hz' ?_)
 refine codeAny_mono (F.run _ X.stack _ _ ⟨Value.ref (hp.objs.size+1)::us,[]⟩ (Value.ref (hp.objs.size+1)::us) _ _ E (hr.make C us []) (I2.env0.make C us []) hb2 r2 hq) fun r s' hq'=>?_
 cases r with
 | error e=>exact hxp pins σ _ _ e s' I2 hq'
 | ok fl=>
  cases fl with
  | ret u=>
   obtain⟨v,H',I3,rv,ev,q3⟩:=I2.after hq'
   subst ev
   exact⟨rv,⟨V.ref (hp.objs.size+1),H',I3,rfl,q3⟩⟩
  | next=>exact False.elim hq'
  | brk=>exact False.elim hq'
  | cont=>exact False.elim hq'
theorem pe_xmake0 (m:Xm X.K C) (hi:findIn X.K (.ref C) "__init__"=some (some (.builtin "ValueError.__init__"))) (hg:Gl X x) (hm:X.mg x=some (.ref C)) (ha:PA X (e::es) t)
  (hdb:(x == ("__debug__":Str))=false:=by decide) (he:starEach (e::es) X.env=(false,eval e X.env)::starEach es X.env:=by rfl) (hpl:(backTo pos (starEach es X.env)).any (·.1)=false:=by rfl):
  PE X (.Call (.Name x p) (e::es) [] pos) (tXMake0 X.K C t):=by
 intro pins s σ H Q I h
 refine wpAny_Call_Name_kw (ld_glob I hg hm ?_ hdb)
 refine PySem.W.callWith_K (h₀:=X.base) I.ok.mod.kin m.kp (thn (ha pos pins s σ H _ I h) fun us s1 ⟨vs,H1,I1,r,hz,q⟩=>⟨I1.kIn,?_⟩) he hpl
 exact run_xmake0 m hi I1 (by rw[List.nil_append,←r.length];exact hz) q
theorem pe_xmake {CX:CXT} {k:Nat} {fd:FuncData} {ps:List Str} {sp:Sp} {E:XK} (m:Xm X.K C) (hi:findIn X.K (.ref C) "__init__"=some (some (.ref fI))) (hfn:PySem.W.isFn X.K (.ref fI)=true)
  (F:FnOk X.prog X.w X.K X.mg X.base CX k fI fd ps sp) (hr:Room (k+1) X.A) (hb:Binds X.K fd ps []) (hxp:Passes CX X E) (hg:Gl X x) (hm:X.mg x=some (.ref C)) (ha:PA X (e::es) t)
  (hdb:(x == ("__debug__":Str))=false:=by decide) (he:starEach (e::es) X.env=(false,eval e X.env)::starEach es X.env:=by rfl) (hpl:(backTo pos (starEach es X.env)).any (·.1)=false:=by rfl):
  PE X (.Call (.Name x p) (e::es) [] pos) (tXMake C sp E t):=by
 intro pins s σ H Q I h
 refine wpAny_Call_Name_kw (ld_glob I hg hm ?_ hdb)
 refine PySem.W.callWith_K (h₀:=X.base) I.ok.mod.kin m.kp (thn (ha pos pins s σ H _ I h) fun us s1 ⟨vs,H1,I1,r,hz,q⟩=>⟨I1.kIn,?_⟩) he hpl
 exact run_xmake m hi hfn F hr hb hxp I1 r hz q
structure ClsRead (K:Frag)(C:Addr)(f:Str)(v:Value):Prop where
 sp:specialIn K (.ref C) "__getattribute__"=some (some (.builtin "type.__getattribute__"))
 rd:PySem.W.readsIn K C (.type "type")=true
 fd:PySem.W.findCls K (.ref C) (.type "type") f=some (.val v)
 hn:PySem.W.handedIn v=true
def tXInit (K:Frag)(t:TA):TE:=fun σ H Q=>t σ H fun vs H1=>∃e C d rest,vs=.ref e::rest∧H1 e=some (xo e C d)∧Xm K C∧rest.length≤1000∧Q .non H1
theorem pe_xinit {L:Addr} {pl:Sem Bool} {apos:Pos} {np:Pos} (hg:Gl X x) (hm:X.mg x=some (.ref L)) (cr:ClsRead X.K L "__init__" (.builtin "ValueError.__init__")) (ha:PA X (e::es) t)
  (hdb:(x == ("__debug__":Str))=false:=by decide) (hst:starEach (e::es) X.env=(false,eval e X.env)::starEach es X.env:=by rfl) (hpl:(backTo pos (starEach es X.env)).any (·.1)=false:=by rfl)
  (ht:eval (.Call (.Attribute (.Name x np) "__init__" apos) (e::es) [] pos) X.env=(do
   let ov ←eval (.Name x np) X.env
   standAt apos.atName
   let (f,first) ←holding [ov] (getMethod ov "__init__" pl)
   callWith pos f first (backTo pos (starEach (e::es) X.env)) (backToKw pos (keywordEach [] X.env))):=by rfl):
  PE X (.Call (.Attribute (.Name x np) "__init__" apos) (e::es) [] pos) (tXInit X.K t):=by
 intro pins s σ H Q I h
 refine PySem.W.methodCall_KW (pl:=pl) (ld_glob I hg hm ?_ hdb) ht
 refine PySem.W.method_cls I.kIn cr.sp (PySem.W.cls_value I.kIn cr.rd cr.fd cr.hn ?_)
 refine PyProof.Rows.callWith_builtin1 (thn (ha pos pins _ σ H _ (I.tok _) h) fun us s1 ⟨vs,H1,I1,r1,ev,C,d,rest,evs,hx,m,hz,q⟩=>?_) hst hpl
 subst evs
 cases r1 with
 | cons ru rr=>
  cases ru
  refine wpAny_call (xinit_run I1 m hx (by rw[←rr.length];exact Nat.le_trans hz (by rw[sizeLine_eq];decide)) _ fun s' I3=>?_)
  exact⟨.non,H1,I3,rfl,q⟩
end
end L2
namespace L2
open PySem PySem.Spec PyProof.Rows
section
variable {X:Cx}{pins:List (Addr×Obj)}{σ:St}{H:Hp}{s:Shared}
theorem Inv.turnedN {t':Nat}{h':Heap}{fp:List Addr}(I:Inv X pins σ H s)(k:∀b o,b∉fp→s.heap.get? b=some o→h'.get? b=some o)(hf:∀b∈fp,FpOk X pins H b):Inv X pins σ H { s with heap:=h',toks:=t' }:=by
 have nit:∀b u,H b=some u→b∉fp:=fun b u e z=>by rw[(hf b z).1]at e;cases e
 refine I.step (g':=s.gens) (d':=s.drawn) (ch:=fp) (fun b hb=>?_) (fun b o _ _ hc e _=>k b o hc e) (fun b o _ _ hc e _=>⟨o.slots,k b o hc e⟩) (fun _ _ _ _ n=>n)
  (fun b o hc e=>⟨o,k b o hc e⟩) (fun _ _ e=>e) (fun _ _ _ e=>e) (fun b ps e=>⟨#[],by rw[e];simp⟩) (fun m hm=>?_) (fun b u e=>?_) I.bare
 ·obtain⟨_,f1,_,f3,f4,f5⟩:=hf b hb
  exact⟨f3,f1,f4,f5⟩
 ·obtain⟨o,es,ep,ho,r⟩:=hm
  exact⟨o,es,ep,k _ o (fun z=>(hf _ z).2.1 rfl) ho,r⟩
 ·refine(I.hok b u e).stay (fun c v hc q=>k c v ?_ q) (fun _ q=>q) fun _ _ q=>q
  rcases hc with z | z
  ·rw[z];exact nit b u e
  ·exact nit c _ z
theorem Inv.track {p:Addr}{o:HO}(I:Inv X pins σ H s)(hf:FpOk X pins H p)(hs:X.s₀.heap.objs.size≤p)(ok:ObjOk X.prog X.w (upd H p o) s.heap p o):Inv X pins σ (upd H p o) s:=by
 obtain⟨f0,f1,f2,f3,f4,f5⟩:=hf
 have ne:∀b o',X.s₀.heap.get? b=some o'→b≠p:=fun b o' e=>Nat.ne_of_lt (Nat.lt_of_lt_of_le (Heap.lt_size e) hs)
 have nh:∀b u,H b=some u→b≠p:=fun b u e=>ne_of_none e f0
 refine⟨I.ok,I.os,I.bare,⟨I.base.keep,I.base.slot,fun b o' e n hb=>?_,I.base.there,fun b xs e=>?_,fun b o' u e=>?_,fun b ps e=>?_⟩,I.loc,I.cell,?_,fun x c e=>?_,fun q hq=>?_,fun b u e=>?_,I.len⟩
 ·rw[upd_ne (ne b o' e)];exact I.base.free b o' e n hb
 ·have:=I.base.tups b xs e
  rw[upd_ne (nh b _ this)];exact this
 ·have:=I.base.frzs b o' u e
  rw[upd_ne (nh b _ this)];exact this
 ·obtain⟨m,q⟩:=I.base.tbls b ps e
  exact⟨m,by rw[upd_ne (nh b _ q)];exact q⟩
 ·rw[upd_ne (Ne.symm f1)];exact I.free
 ·rw[upd_ne (f4 x c e)];exact I.freeC x c e
 ·obtain⟨e,n,r⟩:=I.pin q hq
  refine⟨e,?_,r⟩
  rw[upd_ne (f5 q hq)];exact n
 ·by_cases hb:b=p
  ·subst hb
   rw[upd_same]at e
   cases e
   exact ok
  ·rw[upd_ne hb]at e
   refine(I.hok b u e).stay (fun _ _ _ q=>q) (fun c q=>?_) fun c xs q=>?_
   ·rw[upd_ne (nh c _ q)];exact q
   ·rw[upd_ne (nh c _ q)];exact q
end
def Ite (K:PySem.W.Frag)(a:Addr):It:=
 ⟨fun i H=>∃xs x,SqL K H a xs∧xs[i]?=some x,fun i H x H'=>∃p v,H p=none∧x=.ref p∧H'=upd H p (.tup [.int i,v])∧∀xs,SqL K H a xs→xs[i]?=some v,fun i H=>∃xs,SqL K H a xs∧xs.length≤i⟩
theorem turn_enum {P:Program}{w:World}{K:PySem.W.Frag}{es:List Expr}{x1:Nat}{tp:Pos}(a e it:Addr)(hne:e≠it):Turn P w K (.Tuple es x1 tp) (Ite K a) [e,it] e (fun i h=>(∃old,IsEnum h e it (i:Nat) old)∧h.IsListIter it a i) where
 mem:=by simp
 obj:=fun i h st b hb=>by
  obtain⟨⟨old,s1⟩,s2⟩:=st
  rcases List.mem_cons.mp hb with z | z
  ·subst z
   exact⟨_,s1,fun v z=>by
    have z':Data.fields _=Data.cell v:=z
    cases z'⟩
  ·have z:b=it:=by simpa using z
   subst z
   obtain⟨o,e1,c,d⟩:=s2
   exact⟨o,e1,fun v z=>by rw[d]at z;cases z⟩
 keep:=fun i h h' st k=>by
  obtain⟨⟨old,s1⟩,s2⟩:=st
  exact⟨⟨old,k e (by simp) _ s1⟩,s2.at fun o q=>k it (by simp) o q⟩
 item:=by
  intro X hP hw hK hc i pins s σ H E I hf st hg
  subst hP hw hK
  obtain⟨⟨old,s1⟩,s2⟩:=st
  obtain⟨xs,x,hq,hx⟩:=hg
  obtain⟨its,rv,p,hz⟩:=I.list hq
  obtain⟨u,hu,ru⟩:=rv.get hx
  refine wpAny_pyNext_enum_item s1 s2 p.isList (x:=u) (by simpa using hu) hne fun h' o1 l1 t1 z1 k1=>?_
  refine⟨_,rfl,?_⟩
  refine wpAny_letOwnedTupleGo_enum (s:={ s with heap:=h',toks:=s.toks+1 }) o1 fun h2 o2 sb=>?_
  have hfr:=I.fresh
  have hsz:s.heap.objs.size≠e:=fun z=>by
   obtain⟨o,q,_⟩:∃o,s.heap.get? e=some o∧True:=⟨_,s1,trivial⟩
   exact absurd (Heap.lt_size q) (by rw[←z];exact Nat.lt_irrefl _)
  have k2:∀b o,b∉[e,it]→s.heap.get? b=some o→h2.get? b=some o:=fun b o hb q=>by
   have hbe:b≠e:=fun z=>hb (by simp[z])
   have hbi:b≠it:=fun z=>hb (by simp[z])
   exact(sb.2 b hbe).trans (k1 b o hbe hbi q)
  have I1:Inv X pins σ H { s with heap:=h2,toks:=s.toks+1 }:=I.turnedN (t':=s.toks+1) k2 hf
  have t2:h2.get? s.heap.objs.size=some { cls:=.type "tuple",data:=.seq #[.int i s.toks,u] }:=(sb.2 _ hsz).trans t1
  have fp:=I.fpOk (H':=H) (Nat.le_refl _) hfr
  refine⟨.ref s.heap.objs.size,upd H s.heap.objs.size (.tup [.int i,x]),I1.track fp I.sz ?_,rfl,⟨_,x,hfr,rfl,rfl,fun ys hy=>by rw[I.list_inj hy hq];exact hx⟩,⟨⟨u,?_⟩,?_⟩,fun b hb=>?_⟩
  ·exact⟨by show 2≤sizeLine;rw[sizeLine_eq];decide,[.int i s.toks,u],.cons ⟨_,rfl⟩ (.cons ru .nil),⟨_,t2,rfl,_,rfl⟩⟩
  ·have:(((i+1:Nat):Int))=(i:Int)+1:=by omega
   rw[this];exact o2
  ·obtain⟨o,q,r⟩:=l1
   exact⟨o,(sb.2 it (Ne.symm hne)).trans q,r⟩
  ·have hb':=hf b hb
   have:b≠s.heap.objs.size:=fun z=>by
    rcases List.mem_cons.mp hb with q | q
    ·exact hsz (z.symm.trans q)
    ·have q:b=it:=by simpa using q
     obtain⟨o,q2,_⟩:=s2
     exact absurd (Heap.lt_size q2) (by rw[←q,z];exact Nat.lt_irrefl _)
   rw[upd_ne this];exact hb'.1
 done:=by
  intro X hP hw hK hc i pins s σ H E I hf st hg
  subst hP hw hK
  obtain⟨⟨old,s1⟩,s2⟩:=st
  obtain⟨xs,hq,hx⟩:=hg
  obtain⟨its,rv,p,hz⟩:=I.list hq
  have hl:=rv.length
  refine wpAny_pyNext_enum_end (I.ok.hd hc) s1 s2 p.isList (by simp;omega) fun h' eb=>⟨rfl,I.turnedN (t':=s.toks) (fun b o hb q=>eb b o (fun z=>hb (by simp[z])) q) hf⟩
 self:=fun _ _ _ _ _ st h=>by
  obtain⟨⟨old,s1⟩,_⟩:=st
  exact wpAny_pyIter_enum s1 h
section
variable {X:Cx}{es:List Expr}{x1:Nat}{tp:Pos}
def iEnum (K:PySem.W.Frag)(ta:TA):TI:=fun σ H R=>ta σ H fun vs H1=>∃a,vs=[.ref a]∧(∃xs,SqL K H1 a xs)∧R (Ite K a) H1
theorem pi_enum {l:Expr} {ta:TA} {p pos:Pos} (hg:Gl X "enumerate") (hm:X.mg "enumerate"=none) (ha:PA X [l] ta) (hs:starEach [l] X.env=[(false,eval l X.env)]:=by rfl):PI X (.Tuple es x1 tp) (.Call (.Name "enumerate" p) [l] [] pos) (iEnum X.K ta):=by
 intro pins s σ H R I h
 refine Call_ (ld_blt I hg hm boot_enumerate (PyProof.Rows.callWith_type1 (thn (ha pos pins s σ H _ I h) fun us s1 ⟨vs,H1,I1,r1,a,ev,⟨xs,hq⟩,q⟩=>?_) hs rfl))
 subst ev
 obtain⟨u,rfl,ru⟩:=r1.one
 cases ru
 obtain⟨its,rv,p,hz⟩:=I1.list hq
 refine call_enumerate_list p.isList fun h' e1 l1 z1 k1=>?_
 have I2:Inv X pins σ H1 { s1 with heap:=h' }:=I1.kept (t':=s1.toks) k1
 refine wpAny_pyIter_enum (s:={ s1 with heap:=h' }) e1 ?_
 have h0:(((0:Nat):Int))=0:=rfl
 refine⟨s1.heap.objs.size+1,[s1.heap.objs.size+1,s1.heap.objs.size],_,_,H1,rfl,I2,turn_enum a _ _ (Nat.succ_ne_self _),⟨⟨_,e1⟩,l1⟩,fun b hb=>?_,q⟩
 have hb':s1.heap.objs.size≤b:=by
  rcases List.mem_cons.mp hb with z | z
  ·rw[z];exact Nat.le_succ _
  ·have z:b=s1.heap.objs.size:=by simpa using z
   rw[z];exact Nat.le_refl _
 exact I1.fpOk hb' (I1.hok.fresh hb')
end
theorem for_enum {K:PySem.W.Frag}{a:Addr}{xs:List V}{g:TG}{tb:TS}{D:Ends}{σ:St}{H:Hp}(Pv:Nat→St→Hp→Prop)(h0:Pv 0 σ H)(hl:∀i σ H,i≤xs.length→Pv i σ H→SqL K H a xs)
  (hs:∀i x p σ H,xs[i]?=some x→Pv i σ H→H p=none→g (.ref p) σ (upd H p (.tup [.int i,x])) fun σ2 H2=>tb { D with nx:=Pv (i+1),ct:=Pv (i+1),bk:=D.nx } σ2 H2) (hd:∀σ H,Pv xs.length σ H→D.nx σ H):
  ∃W:Nat→Nat→St→Hp→Prop,(∃m,W 0 m σ H)∧∀i m σ H,W i m σ H →
   ((Ite K a).stop i H∧D.nx σ H)∨((Ite K a).go i H∧∃N:St→Hp→Prop,(∀σ' H',N σ' H'→∃m',m'<m∧W (i+1) m' σ' H')∧∀x H',(Ite K a).yld i H x H'→g x σ H' fun σ2 H2=>tb { D with nx:=N,ct:=N,bk:=D.nx } σ2 H2):=by
 refine⟨fun i m σ H=>m=xs.length-i∧i≤xs.length∧Pv i σ H,⟨xs.length,by simp,Nat.zero_le _,h0⟩,?_⟩
 rintro i m σ H ⟨rfl,hi,p⟩
 have q:=hl i σ H hi p
 by_cases hlt:i<xs.length
 ·refine .inr ⟨⟨xs,xs[i],q,by simp[hlt]⟩,Pv (i+1),fun σ' H' p'=>⟨xs.length-(i+1),by omega,rfl,hlt,p'⟩,fun x H' y=>?_⟩
  obtain⟨pt,v,hn,rfl,rfl,hv⟩:=y
  exact hs i v pt σ H (hv xs q) p hn
 ·have e:i=xs.length:=by omega
  subst e
  exact .inl ⟨⟨xs,q,Nat.le_refl _⟩,hd σ H p⟩
section
variable {H:Hp}{Q:VK}{σ:St}
theorem q_I {C:Int→Int→Prop}{g:Int→Int→V}{i j:Int}:rI C g (.int i) (.int j) H Q=(C i j∧Q (g i j) H):=
 propext ⟨fun ⟨_,_,e1,e2,h⟩=>by cases e1;cases e2;exact h,fun h=>⟨i,j,rfl,rfl,h⟩⟩
theorem q_I0 {g:Int→Int→V}{i j:Int}:rI0 g (.int i) (.int j) H Q=Q (g i j) H:=
 propext ⟨fun ⟨_,_,e1,e2,h⟩=>by cases e1;cases e2;exact h,fun h=>⟨i,j,rfl,rfl,h⟩⟩
theorem q_U {g:Int→V}{i:Int}:rU g (.int i) H Q=Q (g i) H:=
 propext ⟨fun ⟨_,e1,h⟩=>by cases e1;exact h,fun h=>⟨i,rfl,h⟩⟩
theorem q_T {C:List Nat→List Nat→Prop}{g:List Nat→List Nat→V}{a b:List Nat}:rT C g (tx a) (tx b) H Q=(C a b∧Q (g a b) H):=
 propext ⟨fun ⟨_,_,e1,e2,h⟩=>by rw[tx_inj.mp e1,tx_inj.mp e2];exact h,fun h=>⟨a,b,rfl,rfl,h⟩⟩
theorem q_b {b:Bool}{p:Bool→Prop}:(∃k,V.bl b=V.bl k∧p k)=p b:=
 propext ⟨fun ⟨_,e,h⟩=>by cases e;exact h,fun h=>⟨b,rfl,h⟩⟩
theorem q_var {v:V}{p:V→Prop}:(∃u,some (some v)=some (some u)∧p u)=p v:=
 propext ⟨fun ⟨_,e,h⟩=>by cases e;exact h,fun h=>⟨v,rfl,h⟩⟩
theorem q_var' {v:V}{p:V→Prop}:(∃u,v=u∧p u)=p v:=
 propext ⟨fun ⟨_,e,h⟩=>by cases e;exact h,fun h=>⟨v,rfl,h⟩⟩
end
end L2
namespace L2
open PySem PySem.Spec PyProof.Rows
open PySem.W (Frag findIn specialIn typeIn mroIn clsIn subIn kitOne kitCls)
def cmpOk (sc sco:Scope):Bool:=decide (sc.kind=.function)&&sc.names.all fun y=>decide (y.2≠NameKind.cell)&&(decide (y.2≠NameKind.local) || decide (sc.names.lookup y.1=some NameKind.local)) &&
 (decide (y.2≠NameKind.free) || (decide (sco.names.lookup y.1=some NameKind.cell) || decide (sco.names.lookup y.1=some NameKind.free)))
theorem cmpOk_ok {X:Cx}{sc:Scope}(h:cmpOk sc X.env.scope=true):CmpScope X sc:=by
 unfold cmpOk at h
 rw[Bool.and_eq_true,List.all_eq_true]at h
 obtain⟨h1,h2⟩:=h
 refine⟨of_decide_eq_true h1,fun y hy=>?_,fun y hy e=>?_,fun y hy e=>?_⟩
 ·have:=h2 y hy
  simp only[Bool.and_eq_true,Bool.or_eq_true,decide_eq_true_eq]at this
  exact this.1.1
 ·have:=h2 y hy
  simp only[Bool.and_eq_true,Bool.or_eq_true,decide_eq_true_eq]at this
  rcases this.1.2 with z | z
  ·exact absurd e z
  ·exact z
 ·have:=h2 y hy
  simp only[Bool.and_eq_true,Bool.or_eq_true,decide_eq_true_eq]at this
  rcases this.2 with z | z | z
  ·exact absurd e z
  ·exact .inl z
  ·exact .inr z
section
variable {K:Frag}{H:Hp}{C D:Addr}
structure ClsOk (K:Frag)(C:Addr)(mro:List Value):Prop where
 cd:∃cd,clsIn K C=some cd∧cd.mro=mro
 ty:typeIn K (.ref C)=some (.type "type")
 ne:mro.isEmpty=false
theorem kit_ref {m1 m2:List Value}{b:Bool}(c:ClsOk K C m1)(d:ClsOk K D m2)(h:m1.contains (.ref D)=b)(hh:C=D→b=true):kitOne K (.ref C) (.ref D)=some b:=by
 obtain⟨cd,e1,e2⟩:=c.cd
 obtain⟨cd',e3,e4⟩:=d.cd
 unfold PySem.W.kitOne
 split
 ·rename_i z
  have z':Value.ref C=Value.ref D:=by simpa using z
  cases z'
  rw[hh rfl]
 ·unfold PySem.W.kitCls
  dsimp only
  rw[e3,d.ty]
  simp only[Option.isSome_some,Bool.true_and,beq_self_eq_true,if_true]
  unfold PySem.W.subIn PySem.W.mroIn
  dsimp only
  rw[e1,Option.bind_some,e2,c.ne,h]
  rfl
def spInit (K:Frag)(C:Addr)(n:Nat)(fs:List V→List (Str×V)):Sp:=fun vs H Q _=>∃e r,vs=.ref e::r∧r.length=n∧H e=some (xo e C none) ∧
 ∀H',XAt H' e C (fs r)→(∀b o,H b=some o→b≠e→H' b=some o)→Q .non H'
theorem same_upd {a:Addr}{o:HO}(h:H a=none):Same H (upd H a o):=fun b u hb=>by rw[upd_ne (ne_of_none hb h)];exact hb
end
def Mk0 (C:Addr)(H:Hp)(Q:VK):Prop:=∀e,H e=none→Q (.ref e) (upd H e (xo e C none))
def MkI (sp:Sp)(E:XK)(C:Addr)(vs:List V)(H:Hp)(Q:VK):Prop:=∀e,H e=none→sp (.ref e::vs) (upd H e (xo e C none)) (fun v H2=>v=.non∧Q (.ref e) H2) E
def NewL (xs:List V)(H:Hp)(Q:VK):Prop:=∀p,H p=none→Q (.ref p) (upd H p (.lst xs))
def NewT (xs:List V)(H:Hp)(Q:VK):Prop:=∀p,H p=none→Q (.ref p) (upd H p (.tup xs))
section
variable {K:Frag}{C:Addr}{sp:Sp}{E:XK}{t:TA}{σ:St}{H:Hp}{Q:VK}{vs:List V}
theorem q_mk0:tXMake0 K C t σ H Q=t σ H (fun vs H1=>vs.length≤1000∧Mk0 C H1 Q):=rfl
theorem q_mkI:tXMake C sp E t σ H Q=t σ H (fun vs H1=>vs.length≤1000∧MkI sp E C vs H1 Q):=rfl
theorem q_lst:tLst t σ H Q=t σ H (fun xs H1=>xs.length≤sizeLine∧NewL xs H1 Q):=rfl
theorem q_tup:tTup t σ H Q=t σ H (fun xs H1=>xs.length≤sizeLine∧NewT xs H1 Q):=rfl
theorem q_cat {l b:Addr}:rCat (.ref l) (.ref b) H Q=∃xs zs,H l=some (.lst xs)∧H b=some (.lst zs)∧xs.length+zs.length≤sizeLine∧NewL (xs++zs) H Q:=
 propext ⟨fun ⟨_,_,xs,zs,e1,e2,h⟩=>by cases e1;cases e2;exact⟨xs,zs,h⟩,fun ⟨xs,zs,h⟩=>⟨l,b,xs,zs,rfl,rfl,h⟩⟩
theorem MkI.of {n:Nat}{fs:List V→List (Str×V)}(hn:vs.length=n)(h:∀e H',Same H H'→H e=none→XAt H' e C (fs vs)→Q (.ref e) H'):MkI (spInit K C n fs) E C vs H Q:=
 fun e he=>⟨e,vs,rfl,hn,upd_same,fun H' x k=>⟨rfl,h e H' (fun b o hb=>k b o (by rw[upd_ne (ne_of_none hb he)];exact hb) (ne_of_none hb he)) he x⟩⟩
theorem NewL.of (h:∀p H',Same H H'→H p=none→H' p=some (.lst vs)→Q (.ref p) H'):NewL vs H Q:=fun p hp=>h p _ (same_upd hp) hp upd_same
theorem NewT.of (h:∀p H',Same H H'→H p=none→H' p=some (.tup vs)→Q (.ref p) H'):NewT vs H Q:=fun p hp=>h p _ (same_upd hp) hp upd_same
theorem bt_str:bootBuiltins "str"=some (.type "str"):=by decide +kernel
theorem bt_bool:bootBuiltins "bool"=some (.type "bool"):=by decide +kernel
theorem bt_list:bootBuiltins "list"=some (.type "list"):=by decide +kernel
theorem bt_tuple:bootBuiltins "tuple"=some (.type "tuple"):=by decide +kernel
theorem bt_set:bootBuiltins "set"=some (.type "set"):=by decide +kernel
theorem bt_len:bootBuiltins "len"=some (.builtin "len"):=by decide +kernel
theorem bt_isinstance:bootBuiltins "isinstance"=some (.builtin "isinstance"):=by decide +kernel
theorem bt_all:bootBuiltins "all"=some (.builtin "all"):=by decide +kernel
theorem bt_any:bootBuiltins "any"=some (.builtin "any"):=by decide +kernel
theorem bt_max:bootBuiltins "max"=some (.builtin "max"):=by decide +kernel
theorem bt_min:bootBuiltins "min"=some (.builtin "min"):=by decide +kernel
theorem bt_sorted:bootBuiltins "sorted"=some (.builtin "sorted"):=by decide +kernel
end
def Own (K:Frag)(H:Hp)(d:DT)(x:V):Prop:=DatOk K H d x∧deq d d=true∧dep d≤60
theorem scal_self {x:V}(h:flatV x=true):scal x x=true:=by cases x<;>first | rfl | cases h
theorem eq_self {K:Frag}{H:Hp}{Q:VK}{d:DT}{x:V}(o:Own K H d x)(q:Q (.bl true) H):rEqD K false x x H Q:=by
 obtain⟨h1,h2,h3⟩:=o
 by_cases hf:flatV x=true
 ·exact .inl ⟨scal_self hf,by rw[decide_eq_true rfl];exact q⟩
 ·exact .inr ⟨d,d,h1,h1,fun z=>hf z.1,h3,by rw[h2];exact q⟩
theorem Own.same {K:Frag}{H H':Hp}{d:DT}{x:V}(o:Own K H d x)(s:Same H H'):Own K H' d x:=⟨s.dat o.1,o.2⟩
theorem SqL.mk {K:Frag}{H:Hp}{a:Addr}{xs:List V}(h:H a=some (.lst xs)):SqL K H a xs:=.inl (.inl h)
theorem SqT.mk {K:Frag}{H:Hp}{a:Addr}{xs:List V}(h:H a=some (.tup xs)):SqT K H a xs:=.inl (.inl h)
theorem xo_ne {e C d:Addr}:¬(some (xo e C none)=some (xo e C (some d))):=by
 intro z
 have z1:xo e C none=xo e C (some d):=Option.some.inj z
 unfold xo at z1
 have z2:=HO.ext.inj z1
 have hget:(⟨Array.replicate (e+1) (xraw C 0),{}⟩:Heap).get? e=some (xraw C 0):=by
  unfold Heap.get?
  have:(Array.replicate (e+1) (xraw C 0))[e]?=some (xraw C 0):=by simp
  dsimp only
  rw[this]
 have q:=congrFun z2 ⟨Array.replicate (e+1) (xraw C 0),{}⟩
 have l:∃(o:Obj) (t:Addr),(⟨Array.replicate (e+1) (xraw C 0),{}⟩:Heap).get? e=some o∧o.cls=.ref C∧o.dict=none∧o.data=.fields #[.ref t,.none,.none,.none,.bool false,.none]:=⟨_,0,hget,rfl,rfl,rfl⟩
 have r:=q.mp l
 obtain⟨o,t,h1,_,h3,_⟩:=r
 rw[hget]at h1
 cases h1
 cases h3
section
variable {X:Cx}{K:Frag}
theorem op_eqDK (hK:X.K=K)(hu:X.A.units+64<cLine):OpR X (compareOp .Eq) (rEqD K false):=by subst hK;exact op_eqD hu
theorem op_neDK (hK:X.K=K)(hu:X.A.units+64<cLine):OpR X (compareOp .NotEq) (rEqD K true):=by subst hK;exact op_neD hu
theorem ix_listK (hK:X.K=K):IxR X (rIxL K):=by subst hK;exact ix_list
theorem ix_tupK (hK:X.K=K):IxR X (rIxT K):=by subst hK;exact ix_tup
theorem sl_listK (hK:X.K=K):SlR X (rSlL K):=by subst hK;exact sl_list
theorem op_notIn_seqK (hK:X.K=K):OpR X (compareOp .NotIn) (rIn K true):=by subst hK;exact op_notIn_seq
theorem call_lenK (hK:X.K=K):CallR X (.builtin "len") (fun xs H Q=>∃x n,xs=[x]∧LenV K x H n∧Q (.int n) H):=by subst hK;exact call_len
theorem call_list_ofK (hK:X.K=K):CallR X (.type "list") (fun xs H Q=>∃p ys,xs=[.ref p]∧(SqL K H p ys∨SqT K H p ys)∧∀l,H l=none→Q (.ref l) (upd H l (.lst ys))):=by subst hK;exact call_list_of
theorem call_tuple_ofK (hK:X.K=K):CallR X (.type "tuple") (fun xs H Q=>∃p ys,xs=[.ref p]∧((SqL K H p ys∧∀l,H l=none→Q (.ref l) (upd H l (.tup ys)))∨(SqT K H p ys∧Q (.ref p) H))):=by subst hK;exact call_tuple_of
theorem pi_listK {tg l:Expr}{tl:TE}(hK:X.K=K)(hl:PE X l tl):PI X tg l (iList K tl):=by subst hK;exact pi_list hl
end
theorem cxK {CX:CXT}{P:Program}{w:World}{K:PySem.W.Frag}{mg:Str→Option Value}{base:Heap}{N:List Str}{qual:Str}{scope:Scope}{f:Addr}{cd:Value}{A:Around}{outer:List Env}{s:Shared}{H:Hp}{E:XK}:
  (cxOf CX P w K mg base N qual scope f cd A outer s H E).K=K:=rfl
theorem bxK {X:Cx}{sc:Scope}{N:List Str}{fp:List Addr}{s₀:Shared}{H:Hp}{pn:List (Addr×Obj)}:(bx X sc N fp s₀ H pn).K=X.K:=rfl
end L2
namespace L2
open PySem PySem.Spec PyProof.Rows
open PySem.W (Frag)
def ForRun (J:It)(g:TG)(tb:TS)(D:Ends)(σ:St)(H:Hp):Prop:=∃W:Nat→Nat→St→Hp→Prop,(∃m,W 0 m σ H)∧∀i m σ H,W i m σ H →
 (J.stop i H∧D.nx σ H)∨(J.go i H∧∃N:St→Hp→Prop,(∀σ' H',N σ' H'→∃m',m'<m∧W (i+1) m' σ' H')∧∀x H',J.yld i H x H'→g x σ H' fun σ2 H2=>tb { D with nx:=N,ct:=N,bk:=D.nx } σ2 H2)
theorem q_for {wi:TI}{g:TG}{tb:TS}{D:Ends}{σ:St}{H:Hp}:tFor wi g tb D σ H=wi σ H fun J H1=>ForRun J g tb D σ H1:=rfl
def CompRun (J:It)(τ0:St)(g:TG)(tt:TT)(te:TE)(H1:Hp)(Q:VK):Prop:=∀acc,H1 acc=none→∃W:Nat→Nat→St→Hp→Prop,(∃m,W 0 m τ0 (upd H1 acc (.lst []))) ∧
 ∀i m τ H2,W i m τ H2→(J.stop i H2∧Q (.ref acc) H2)∨(J.go i H2∧∃Nx:St→Hp→Prop,(∀τ' H',Nx τ' H'→∃m',m'<m∧W (i+1) m' τ' H') ∧
  ∀x H3,J.yld i H2 x H3→g x τ H3 fun τ2 H4=>tt τ2 H4 fun b H5=>if b=true then te τ2 H5 fun y H6=>∃ys,H6 acc=some (.lst ys)∧ys.length<sizeLine∧Nx τ2 (upd H6 acc (.lst (ys++[y]))) else Nx τ2 H5)
theorem q_comp {ix:List (Option Nat)}{wi:TI}{g:TG}{tt:TT}{te:TE}{σ:St}{H:Hp}{Q:VK}:tComp ix wi g tt te σ H Q=wi σ H fun J H1=>CompRun J (pick ix σ) g tt te H1 Q:=rfl
section
variable {g:TG}{tb:TS}{D:Ends}{σ:St}{H:Hp}{K:Frag}{a:Addr}{xs:List V}
theorem ForRun.list (Pv:Nat→St→Hp→Prop)(h0:Pv 0 σ H)(hl:∀i σ H,i≤xs.length→Pv i σ H→SqL K H a xs)
  (hs:∀i x σ H,xs[i]?=some x→Pv i σ H→g x σ H fun σ2 H2=>tb { D with nx:=Pv (i+1),ct:=Pv (i+1),bk:=D.nx } σ2 H2) (hd:∀σ H,Pv xs.length σ H→D.nx σ H):ForRun (Itl K a) g tb D σ H:=
 for_list Pv h0 hl hs hd
theorem ForRun.enum (Pv:Nat→St→Hp→Prop)(h0:Pv 0 σ H)(hl:∀i σ H,i≤xs.length→Pv i σ H→SqL K H a xs)
  (hs:∀i x p σ H,xs[i]?=some x→Pv i σ H→H p=none→g (.ref p) σ (upd H p (.tup [.int i,x])) fun σ2 H2=>tb { D with nx:=Pv (i+1),ct:=Pv (i+1),bk:=D.nx } σ2 H2) (hd:∀σ H,Pv xs.length σ H→D.nx σ H):
  ForRun (Ite K a) g tb D σ H:=for_enum Pv h0 hl hs hd
theorem ForRun.range {lo:Int}{n:Nat}(Pv:Nat→St→Hp→Prop)(h0:Pv 0 σ H)
  (hs:∀i σ H,i<n→Pv i σ H→g (.int (lo+i)) σ H fun σ2 H2=>tb { D with nx:=Pv (i+1),ct:=Pv (i+1),bk:=D.nx } σ2 H2) (hd:∀σ H,Pv n σ H→D.nx σ H):
  ForRun (Itr lo n) g tb D σ H:=for_range Pv h0 hs hd
theorem ForRun.text {l:List Nat}(Pv:Nat→St→Hp→Prop)(h0:Pv 0 σ H)
  (hs:∀i c σ H,l[i]?=some c→Pv i σ H→g (tx [c]) σ H fun σ2 H2=>tb { D with nx:=Pv (i+1),ct:=Pv (i+1),bk:=D.nx } σ2 H2) (hd:∀σ H,Pv l.length σ H→D.nx σ H):
  ForRun (Its l) g tb D σ H:=for_text Pv h0 hs hd
end
section
variable {tt:TT}{te:TE}{Q:VK}{τ0:St}{H:Hp}
theorem CompRun.gen {J:It}{n:Nat}(v:Nat→V)(b:Nat→Bool)(f:Nat→V)(hz:n≤1000)(hgo:∀i H',i<n→Same H H'→J.go i H')(hst:∀H',Same H H'→J.stop n H')(hy:∀i H' x H3,i<n→Same H H'→J.yld i H' x H3→H3=H'∧x=v i)
  (ht:∀i H' Q',i<n→Same H H'→(∀H'',Same H' H''→Q' (b i) H'')→tt (τ0.set 0 (some (v i))) H' Q')
  (he:∀i H' Q',i<n→b i=true→Same H H'→(∀H'',Same H' H''→Q' (f i) H'')→te (τ0.set 0 (some (v i))) H' Q')
  (hQ:∀p H',Same H H'→H p=none→H' p=some (.lst (((List.range n).filter b).map f))→Q (.ref p) H'):CompRun J τ0 (gName 0) tt te H Q:=by
 intro acc ha
 refine⟨fun i m τ H2=>i≤n∧m=n-i∧(∀w:Option V,τ.set 0 w=τ0.set 0 w)∧Same H H2∧H2 acc=some (.lst (((List.range i).filter b).map f)),⟨n,Nat.zero_le _,rfl,fun _=>rfl,same_upd ha,upd_same⟩,?_⟩
 rintro i m τ H2 ⟨hi,rfl,hτ,hs,hacc⟩
 by_cases hlt:i<n
 ·refine .inr ⟨hgo i H2 hlt hs,fun τ' H'=>(∀w:Option V,τ'.set 0 w=τ0.set 0 w)∧Same H H'∧H' acc=some (.lst (((List.range (i+1)).filter b).map f)),fun τ' H' q=>⟨n-(i+1),by omega,hlt,rfl,q⟩,fun x H3 y=>?_⟩
  obtain⟨rfl,rfl⟩:=hy i H2 x H3 hlt hs y
  show tt (τ.set 0 (some (v i))) _ _
  rw[hτ]
  have hτ':∀w:Option V,(τ0.set 0 (some (v i))).set 0 w=τ0.set 0 w:=fun w=>by rw[List.set_set]
  refine ht i _ _ hlt hs fun H4 s4=>?_
  cases hb:b i with
  | false=>
   rw[if_neg Bool.false_ne_true]
   refine⟨hτ',hs.trans s4,?_⟩
   rw[s4 _ _ hacc,List.range_succ,List.filter_append]
   simp[hb]
  | true=>
   rw[if_pos rfl]
   refine he i _ _ hlt hb (hs.trans s4) fun H5 s5=>?_
   refine⟨_,s5 _ _ (s4 _ _ hacc),?_,hτ',?_,?_⟩
   ·rw[List.length_map]
    have:=List.length_filter_le b (List.range i)
    rw[List.length_range]at this
    exact small1000 (by omega)
   ·intro c o hc
    have:c≠acc:=ne_of_none hc ha
    rw[upd_ne this]
    exact s5 _ _ (s4 _ _ (hs _ _ hc))
   ·rw[upd_same,List.range_succ,List.filter_append]
    simp[hb]
 ·have e:i=n:=by omega
  subst e
  exact .inl ⟨hst H2 hs,hQ acc H2 hs ha hacc⟩
theorem filter_all {n:Nat}{f:Nat→V}:((List.range n).filter fun _=>true).map f=(List.range n).map f:=by rw[List.filter_eq_self.mpr (fun _ _=>rfl)]
theorem CompRun.text {l:List Nat}(b:Nat→Bool)(f:Nat→V)(hz:l.length≤1000)
  (ht:∀i H' Q' (h:i<l.length),Same H H'→(∀H'',Same H' H''→Q' (b i) H'')→tt (τ0.set 0 (some (tx [l.getD i 0]))) H' Q')
  (he:∀i H' Q' (h:i<l.length),b i=true→Same H H'→(∀H'',Same H' H''→Q' (f i) H'')→te (τ0.set 0 (some (tx [l.getD i 0]))) H' Q')
  (hQ:∀p H',Same H H'→H p=none→H' p=some (.lst (((List.range l.length).filter b).map f))→Q (.ref p) H'):CompRun (Its l) τ0 (gName 0) tt te H Q:=
 .gen (fun i=>tx [l.getD i 0]) b f hz (fun i _ h _=>h) (fun _ _=>Nat.le_refl _) (fun i H' x H3 _ _ y=>by
  obtain⟨e,c,hc,rfl⟩:=y
  refine⟨e,?_⟩
  rw[List.getD_eq_getElem?_getD,hc];rfl) ht he hQ
end
theorem deqs_self:∀ {vs:List V},vs.all flatV=true→deqs (vs.map DT.f) (vs.map DT.f)=true
 | [],_=>by unfold deqs;rfl
 | v::vs,h=>by
  rw[List.all_cons,Bool.and_eq_true]at h
  rw[List.map_cons]
  unfold deqs
  rw[deqs_self h.2]
  unfold deq
  rw[eqV_self h.1]
  rfl
theorem ownF {K:Frag}{H:Hp}{v:V}(h:flatV v=true):Own K H (.f v) v:=⟨datF h,by unfold deq;exact eqV_self h,by unfold dep;exact Nat.zero_le _⟩
theorem ownL {K:Frag}{H:Hp}{a:Addr}{vs:List V}(h:SqL K H a vs)(hf:vs.all flatV=true):Own K H (.l (vs.map DT.f)) (.ref a):=⟨datL h hf,by unfold deq;exact deqs_self hf,by unfold dep;rw[deps_flat];decide⟩
theorem ownT {K:Frag}{H:Hp}{a:Addr}{vs:List V}(h:SqT K H a vs)(hf:vs.all flatV=true):Own K H (.t (vs.map DT.f)) (.ref a):=⟨datT h hf,by unfold deq;exact deqs_self hf,by unfold dep;rw[deps_flat];decide⟩
end L2
namespace L2
open PySem PySem.Spec PyProof.Rows
theorem tb_or {t:SetTable}{n:Nat}:(t.orStandIn n).led=t.led∧((t.orStandIn n).plain=true→t.plain=true):=by
 unfold SetTable.orStandIn
 split
 ·exact⟨rfl,id⟩
 ·exact⟨rfl,fun h=>by cases h⟩
theorem tb_lay {t:SetTable}{es:Array (Int×Value)}{h:Int}{x:Value}:(layNew t es h x).2.1.led=t.led∧((layNew t es h x).2.1.plain=true→t.plain=true):=by
 unfold layNew
 split
 ·rename_i slot wd _
  exact tb_or (t:=(t.put slot).1)
 ·exact⟨rfl,fun h=>by cases h⟩
theorem tb_laid {mask finger moves:Nat}{led plain:Bool}{hs:Array Int}{t':SetTable}{order:Array Nat}(e:SetTable.laid mask finger moves led plain hs=some (t',order)):t'.led=led∧t'.plain=plain:=by
 unfold SetTable.laid at e
 cases hq:SetTable.layClean mask hs with
 | none=>rw[hq]at e;cases e
 | some ow=>
  rw[hq]at e
  have e':=Option.some.inj e
  obtain⟨z,_⟩:=Prod.mk.inj e'
  subst z
  exact⟨rfl,rfl⟩
theorem tb_relay {t:SetTable}{es:Array (Int×Value)}{n:Nat}:(relayAll t es n).2.1.led=t.led∧((relayAll t es n).2.1.plain=true→t.plain=true):=by
 unfold relayAll
 split
 ·rename_i t' order q
  obtain⟨h1,h2⟩:=tb_laid q
  dsimp only
  split
  ·exact⟨h1,fun h=>by rw[←h2];exact h⟩
  ·exact⟨rfl,fun h=>by cases h⟩
 ·exact⟨rfl,fun h=>by cases h⟩
def TxSet (P:Program)(w:World)(h:Heap)(a:Addr)(ls:List (List Nat))(led:Bool):Prop:=
 ∃(o:Obj) (es:Array (Int×Value)) (ep:Nat) (t:SetTable) (ms:List (List Nat)),h.get? a=some o∧o.ExactSet∧o.data=.set es ep t∧ElemsOf (mixKind P w) es.toList∧t.fits es.size=true ∧
  t.led=led∧(t.plain=true→es.size=0)∧ms.Perm ls∧Vals (ms.map tx) (es.toList.map (·.2))∧es.size<scanBound
theorem TxSet.keep {P:Program}{w:World}{h h':Heap}{a:Addr}{ls:List (List Nat)}{led:Bool}(x:TxSet P w h a ls led)(k:∀o,h.get? a=some o→h'.get? a=some o):TxSet P w h' a ls led:=by
 obtain⟨o,es,ep,t,ms,h1,r⟩:=x
 exact⟨o,es,ep,t,ms,k o h1,r⟩
theorem TxSet.typ {P:Program}{w:World}{s:Shared}{a:Addr}{ls:List (List Nat)}{led:Bool}(x:TxSet P w s.heap a ls led):s.TypeIs (.ref a) "set":=by
 obtain⟨o,es,ep,t,ms,h1,h2,_⟩:=x
 exact⟨o,h1,h2.1⟩
def addT (ls:List (List Nat))(l:List Nat):List (List Nat):=if l∈ls then ls else ls++[l]
theorem is_tx {l:List Nat}{v:V}{u:Value}(r:RelV v u)(hv:∃m,v=tx m):keyIs (Sum.inr (⟨l.toArray⟩:Str):Key) u=decide (v=tx l):=by
 obtain⟨m,rfl⟩:=hv
 obtain⟨t,rfl⟩:=r
 rw[dec_tx]
 simp only[keyIs,Value.isStrOf]
 by_cases h:m=l
 ·subst h;simp
 ·have:¬(⟨m.toArray⟩:Str)=⟨l.toArray⟩:=fun e=>h (tx_inj.mp (congrArg V.str e))
  rw[decide_eq_false h]
  simp[this]
theorem vals_mem {l:List Nat}:∀ {ms:List (List Nat)} {es:List (Int×Value)},Vals (ms.map tx) (es.map (·.2))→((∃e∈es,keyIs (Sum.inr (⟨l.toArray⟩:Str):Key) e.2=true)↔l∈ms)
 | [],[],_=>by simp
 | [],_::_,r=>by cases r
 | _::_,[],r=>by cases r
 | m::ms,e::es,r=>by
  cases r with
  | cons r1 r2=>
   have ih:=vals_mem (l:=l) r2
   have q:=is_tx (l:=l) r1 ⟨m,rfl⟩
   rw[dec_tx]at q
   constructor
   ·rintro⟨x,hx,hk⟩
    rcases List.mem_cons.mp hx with z | z
    ·subst z
     rw[q]at hk
     exact List.mem_cons.mpr (.inl (of_decide_eq_true hk).symm)
    ·exact List.mem_cons.mpr (.inr (ih.mp ⟨x,z,hk⟩))
   ·intro h
    rcases List.mem_cons.mp h with z | z
    ·exact⟨e,List.mem_cons_self,by rw[q];exact decide_eq_true z.symm⟩
    ·obtain⟨x,hx,hk⟩:=ih.mpr z
     exact⟨x,List.mem_cons_of_mem _ hx,hk⟩
theorem vals_perm {us us':List Value}(p:us'.Perm us):∀ {ms:List (List Nat)},Vals (ms.map tx) us→∃ms':List (List Nat),ms'.Perm ms∧Vals (ms'.map tx) us':=by
 induction p with
 | nil=>intro ms r;exact⟨ms,.refl _,r⟩
 | cons x _ ih=>
  intro ms r
  cases ms with
  | nil=>cases r
  | cons m ms=>
   cases r with
   | cons r1 r2=>
    obtain⟨ms',p',r'⟩:=ih r2
    exact⟨m::ms',p'.cons _,.cons r1 r'⟩
 | swap x y l=>
  intro ms r
  match ms,r with
  | m1::m2::ms,.cons r1 (.cons r2 r3)=>exact⟨m2::m1::ms,.swap _ _ _,.cons r2 (.cons r1 r3)⟩
 | trans _ _ ih1 ih2=>
  intro ms r
  obtain⟨m1,p1,r1⟩:=ih2 r
  obtain⟨m2,p2,r2⟩:=ih1 r1
  exact⟨m2,p2.trans p1,r2⟩
section
variable {prog:Program}{w:World}{A:Around}{E:Value→Shared→Prop}{s:Shared}
theorem set_tail {g:Bool→Sem Unit}(hg:∀(b:Bool) (s₁:Shared) (Q':Unit→Shared→Prop),Q' () s₁→wpAny (model prog w) A (g b) Q' E s₁){a:Addr}{o:Obj}{es:Array (Int×Value)}{ep:Nat}{t:SetTable}
  (ho:s.heap.get? a=some o) (hd:o.data=.set es ep t) {e1:Array (Int×Value)} {t2:SetTable} (hb:e1.size<scanBound) (hf:t2.fits e1.size=true) {wd:Bool} {R:Option Bool→Shared→Prop}
  (h:∀h' e2 t3 ep',Heap.SameBut a s.heap h'→h'.get? a=some { o with data:=.set e2 ep' t3 }→e2.toList.Perm e1.toList→t3.fits e2.size=true→t3.led=t2.led→(t3.plain=true→t2.plain=true)→R (some true) { s with heap:=h' }):
  wpAny (model prog w) A (do
   storeSet a e1 t2
   if (!wd&&t2.tooFull)=true then do
    g (relayAll t2 e1 (SetTable.grown e1.size)).2.2;storeSet a (relayAll t2 e1 (SetTable.grown e1.size)).1 (relayAll t2 e1 (SetTable.grown e1.size)).2.1;pure (some true)
   else pure (some true)) R E s:=by
 have put:∀ {h:Heap} {ob:Obj} {xs ys:Array (Int×Value)} {n:Nat} {t t':SetTable},h.get? a=some ob→ob.data=.set xs n t→(h.update a (Obj.putSet ys t')).get? a=some { ob with data:=.set ys (n+1) t' }:=fun {h ob xs ys n t t'} h1 h2=>by
  have q:=Heap.get?_update_self (Obj.putSet ys t') h1 (by rw[putSet_of ys t' h2];rfl)
  rwa [putSet_of ys t' h2]at q
 have hs1:=Heap.SameBut.update s.heap a (Obj.putSet e1 t2)
 have g1:=put (ys:=e1) (t':=t2) ho hd
 refine wpAny_bind (wpAny_storeSet_of ho hd ?_ (fits_of_scanBound hb))
 split
 ·have p:=relayAll_perm t2 e1 (SetTable.grown e1.size)
  have f:=relayAll_fits t2 e1 (SetTable.grown e1.size)
  have tm:=tb_relay (t:=t2) (es:=e1) (n:=SetTable.grown e1.size)
  have z:(relayAll t2 e1 (SetTable.grown e1.size)).1.size=e1.size:=by rw[←Array.length_toList,p.length_eq,Array.length_toList]
  refine wpAny_bind (hg _ _ _ (wpAny_bind (wpAny_storeSet_of g1 rfl (wpAny_pure ?_) (fits_of_scanBound (by rw[z];exact hb)))))
  exact h _ _ _ _ (hs1.trans (Heap.SameBut.update _ a _)) (put (ob:={ o with data:=.set e1 (ep+1) t2 }) g1 rfl) p f tm.1 tm.2
 ·exact wpAny_pure (h _ _ _ _ hs1 g1 (.refl _) hf rfl id)
theorem set_add {a:Addr}{ls:List (List Nat)}{led:Bool}{l:List Nat}{tk:Tok}{Q:Bool→Shared→Prop}(hS:TxSet prog w s.heap a ls led)(hn:ls.length+1<scanBound)
  (h:∀h' b,Heap.SameBut a s.heap h'→TxSet prog w h' a (addT ls l) led→Q b { s with heap:=h' }):
  wpAny (model prog w) A (setAddHashed a (.str ⟨l.toArray⟩ tk) (keyH w (Sum.inr ⟨l.toArray⟩))) Q E s:=by
 obtain⟨o,es,ep,t,ms,ho,hex,hd,hel,hf,hled,hpl,hp,hv,hb⟩:=hS
 have hkey:(mixKind prog w).is (Sum.inr (⟨l.toArray⟩:Str)) (.str ⟨l.toArray⟩ tk)=true:=by
  exact mixKind_str prog w _ _
 have hsc:(Value.str ⟨l.toArray⟩ tk).scannable=true:=rfl
 have hlen:es.size=ls.length:=by
  have q:=hv.length
  rw[List.length_map,List.length_map]at q
  rw[←Array.length_toList,←q,hp.length_eq]
 have mem:=vals_mem (l:=l) hv
 have hl:l∈ms↔l∈ls:=hp.mem_iff
 unfold setAddHashed setAddHashedIn
 refine wpAny_holding (wpAny_bind (wpAny_setState_of ho hd hf ?_))
 dsimp only
 rw[byScan_of hsc hb hel,if_pos rfl]
 unfold setAddByScan
 refine wpAny_bind (wpAny_bind (wpAny_rule (wpAny_bind (wpAny_setScan_of (knd:=mixKind prog w) (k:=Sum.inr (⟨l.toArray⟩:Str)) hkey ho hd hf hel ?_))))
 cases hr:List.findIdx? (fun e=>(mixKind prog w).is (Sum.inr (⟨l.toArray⟩:Str)) e.2) es.toList with
 | some j=>
  dsimp only
  obtain⟨hj,hpj,_⟩:=List.findIdx?_eq_some_iff_getElem.mp hr
  have hin:l∈ls:=hl.mp (mem.mp ⟨es.toList[j],List.getElem_mem hj,hpj⟩)
  refine wpAny_pure (wpAny_pure ?_)
  have q:=h s.heap false (Heap.SameBut.refl a s.heap) (by
   unfold addT
   rw[if_pos hin]
   exact⟨o,es,ep,t,ms,ho,hex,hd,hel,hf,hled,hpl,hp,hv,hb⟩)
  exact q
 | none=>
  dsimp only
  have hnin:l∉ls:=fun z=>by
   obtain⟨e,he,hk⟩:=mem.mpr (hl.mpr z)
   have q:=List.findIdx?_eq_none_iff.mp hr e he
   rw[show (mixKind prog w).is (Sum.inr (⟨l.toArray⟩:Str)) e.2=true from hk]at q
   cases q
  have lp:=layNew_perm t es (keyH w (Sum.inr ⟨l.toArray⟩)) (.str ⟨l.toArray⟩ tk)
  have lf:=layNew_fits t es (keyH w (Sum.inr ⟨l.toArray⟩)) (.str ⟨l.toArray⟩ tk)
  have lt:=tb_lay (t:=t) (es:=es) (h:=keyH w (Sum.inr ⟨l.toArray⟩)) (x:=.str ⟨l.toArray⟩ tk)
  show wpAny _ A (match layNew t es (keyH w (Sum.inr ⟨l.toArray⟩)) (.str ⟨l.toArray⟩ tk) with | (es,t,wasDummy,gave)=>_) _ _ _
  generalize hL:layNew t es (keyH w (Sum.inr ⟨l.toArray⟩)) (.str ⟨l.toArray⟩ tk)=L at lp lf lt ⊢
  obtain⟨e1,t1,wd,gave⟩:=L
  dsimp only at lp lf lt ⊢
  rw[Array.toList_push]at lp
  have sz1:e1.size=ls.length+1:=by rw[←Array.length_toList,lp.length_eq,List.length_append,Array.length_toList,hlen];rfl
  have gw:∀(b:Bool) (s₁:Shared) (Q':Unit→Shared→Prop),Q' () s₁→wpAny (model prog w) A (match b with | true=>rule "set.scan.the-table-gave-way" | false=>pure ()) Q' E s₁:=
   fun b s₁ Q' hq=>by cases b<;>first | exact wpAny_pure hq | exact wpAny_rule hq
  refine wpAny_bind (gw _ _ _ ?_)
  have fin:∀(t2:SetTable),t2.fits e1.size=true→t2.led=t1.led→t2.plain=false→∀h' e2 t3 ep',Heap.SameBut a s.heap h'→h'.get? a=some { o with data:=.set e2 ep' t3 }→e2.toList.Perm e1.toList→t3.fits e2.size=true→t3.led=t2.led→(t3.plain=true→t2.plain=true)→Q true { s with heap:=h' }:=by
   intro t2 f2 l2 p2 h' e2 t3 ep' sb hg pm f3 l3 p3
   refine h h' true sb ?_
   have pall:=pm.trans lp
   obtain⟨ms',pm',hv'⟩:=vals_perm (us:=(es.toList++[(keyH w (Sum.inr ⟨l.toArray⟩),Value.str ⟨l.toArray⟩ tk)]).map (·.2)) (us':=e2.toList.map (·.2)) (pall.map _) (ms:=ms++[l]) (by
    rw[List.map_append,List.map_append]
    exact hv.append (.cons ⟨tk,rfl⟩ .nil))
   unfold addT
   rw[if_neg hnin]
   refine⟨_,e2,ep',t3,ms',hg,hex,rfl,((hel.push (knd:=mixKind prog w) hkey hsc).perm pall),f3,l3.trans (l2.trans (lt.1.trans hled)),fun z=>by rw[p2]at p3;exact absurd (p3 z) Bool.false_ne_true,pm'.trans (hp.append_right [l]),hv',?_⟩
   rw[←Array.length_toList,pm.length_eq,Array.length_toList,sz1]
   exact hn
  split
  ·refine wpAny_bind ?_
   rw[hashByValue_scannable 8 hsc]
   refine wpAny_pure ?_
   refine set_tail gw ho hd (by rw[sz1];exact hn) ?_ fun h' e2 t3 ep' q1 q2 q3 q4 q5 q6=>?_
   ·exact SetTable.fits_plain_off lf
   ·exact wpAny_pure (fin _ (SetTable.fits_plain_off lf) rfl rfl h' e2 t3 ep' q1 q2 q3 q4 q5 q6)
  ·rename_i hnp
   have hnp':t1.plain=false:=by simpa using hnp
   refine wpAny_bind (wpAny_pure ?_)
   rw[if_pos rfl]
   refine set_tail gw ho hd (by rw[sz1];exact hn) lf fun h' e2 t3 ep' q1 q2 q3 q4 q5 q6=>wpAny_pure (fin _ lf rfl hnp' h' e2 t3 ep' q1 q2 q3 q4 q5 q6)
end
def dd (val:Nat→List Nat)(i:Nat):List (List Nat):=((List.range i).map val).foldl addT []
theorem dd_succ {val:Nat→List Nat}{i:Nat}:dd val (i+1)=addT (dd val i) (val i):=by
 unfold dd
 rw[List.range_succ,List.map_append,List.foldl_append]
 rfl
theorem addT_len {ls:List (List Nat)}{l:List Nat}:(addT ls l).length≤ls.length+1:=by
 unfold addT
 split
 ·omega
 ·simp
theorem dd_len {val:Nat→List Nat}:∀i,(dd val i).length≤i
 | 0=>Nat.le_refl _
 | i+1=>by
  rw[dd_succ]
  have h1:=dd_len (val:=val) i
  have h2:=addT_len (ls:=dd val i) (l:=val i)
  omega
theorem dd_nodup {val:Nat→List Nat}:∀i,(dd val i).Nodup
 | 0=>by simp[dd]
 | i+1=>by
  rw[dd_succ]
  unfold addT
  split
  ·exact dd_nodup i
  ·rename_i h
   rw[List.nodup_append]
   refine⟨dd_nodup i,by simp,?_⟩
   intro a ha b hb e
   have:b=val i:=by simpa using hb
   subst e this
   exact h ha
section
variable {prog:Program}{w:World}{A:Around}{R:Result→Shared→Prop}{I:Addr}{fp wr:List Addr}{G:Array GenState→Array GenState→Prop}{n:Nat}{Pi:Nat→Value→Prop}{St:Nat→Shared→Prop}
theorem set_loop (W:WalksS prog w A.in1 I fp wr G n Pi St)(S:Addr)(hSf:S∉fp)(val:Nat→List Nat)(hval:∀i v,Pi i v→∃t,v=.str ⟨(val i).toArray⟩ t)(hb:n+1<scanBound){led:Bool}:
  ∀(k i:Nat) (s:Shared),n-i=k→i≤n→St i s→TxSet prog w s.heap S (dd val i) led→(∀s',Moved (S::wr) G s s'→TxSet prog w s'.heap S (dd val n) led→R (.ok (.ret .none)) s') →
   codeAny (model prog w) A (.builtin "set.update.loop" ⟨[.ref S,.ref I],[]⟩) R s:=by
 have nw:S∉wr:=fun h=>hSf (W.sub _ h)
 have up:∀b∈wr,b∈S::wr:=fun b hb=>List.mem_cons_of_mem _ hb
 intro k
 induction k with
 | zero=>
  intro i s hk hi st hS hR
  have e:i=n:=by omega
  subst e
  refine codeAny_builtin F.entry_set_update_loop ?_
  rw[Around.under_plainId F.plain_set_update_loop _]
  show wpAny _ A.in1 (pyNext (.ref I) >>= fun r=>_) _ _ s
  refine wpAny_bind (W.done s _ _ st fun s' hm=>?_)
  exact wpAny_pure (hR s' (hm.mono up) (hS.keep fun o e=>hm.heap S o nw e))
 | succ k ih=>
  intro i s hk hi st hS hR
  have hlt:i<n:=by omega
  refine codeAny_builtin F.entry_set_update_loop ?_
  rw[Around.under_plainId F.plain_set_update_loop _]
  show wpAny _ A.in1 (pyNext (.ref I) >>= fun r=>_) _ _ s
  refine wpAny_bind (W.item i s _ _ hlt st fun v s1 hP st1 hm=>?_)
  obtain⟨tk,rfl⟩:=hval i v hP
  have hS1:TxSet prog w s1.heap S (dd val i) led:=hS.keep fun o e=>hm.heap S o nw e
  show wpAny _ A.in1 (holding [Value.str ⟨(val i).toArray⟩ tk] (setAdd S (.str ⟨(val i).toArray⟩ tk)) >>= fun _=>_) _ _ s1
  refine wpAny_bind (wpAny_holding ?_)
  unfold setAdd
  refine wpAny_holding (wpAny_bind (wpAny_pyHash_str ?_))
  refine set_add (s:={ s1 with toks:=s1.toks+1 }) (l:=val i) hS1 (by have:=dd_len (val:=val) i;omega) fun h' b sb hS2=>?_
  rw[←dd_succ]at hS2
  refine wpAny_pure ⟨plainId_quiet F.plain_set_update_loop _,ih (i+1) _ (by omega) hlt (W.frame _ s1 _ _ st1 (Nat.le_succ _) fun b hb o e=>(sb.2 b fun z=>hSf (z▸hb)).trans e) hS2 fun s2 hm2 hS3=>?_⟩
  exact hR s2 (Moved.trans W.gtrans ((hm.mono up).then_heap (Nat.le_succ _) fun b o hb e=>(sb.2 b fun z=>hb (z▸List.mem_cons_self)).trans e) hm2) hS3
end
theorem vals_at {i:Nat}{u:Value}:∀ {vs:List V} {us:List Value} ,Vals vs us→us[i]?=some u→∃v,vs[i]?=some v∧RelV v u:=by
 induction i with
 | zero=>
  intro vs us r e
  cases r with
  | nil=>cases e
  | cons r1 _=>cases e;exact⟨_,rfl,r1⟩
 | succ i ih=>
  intro vs us r e
  cases r with
  | nil=>cases e
  | cons _ r2=>exact ih r2 e
structure Walked (prog:Program)(w:World)(x:Value)(s:Shared)(T:String)(n:Nat)(val:Nat→List Nat):Prop where
 ty:∀s1:Shared,(∀b o,s.heap.get? b=some o→s1.heap.get? b=some o)→s1.TypeIs x T
 go:∀(A:Around) (s1:Shared) (Q:Value→Shared→Prop) (E:Value→Shared→Prop),A.handled=none→(∀b o,s.heap.get? b=some o→s1.heap.get? b=some o) →
  (∀(h2:Heap) (I:Addr) (fp wr:List Addr) (Pi:Nat→Value→Prop) (St:Nat→Heap→Prop),(∀A':Around,A'.handled=none→Walks prog w A' I fp wr n Pi St)→St 0 h2 →
   (∀b∈fp,b<s.heap.objs.size∨s1.heap.objs.size≤b)→(∀b∈wr,s1.heap.objs.size≤b)→(∀b o,s1.heap.get? b=some o→h2.get? b=some o)→(∀i v,Pi i v→∃t,v=.str ⟨(val i).toArray⟩ t)→Q (.ref I) { s1 with heap:=h2 }) →
  wpAny (model prog w) A (pyIter x) Q E s1
theorem walked_list {prog:Program}{w:World}{s:Shared}{l:Addr}{us:List Value}{ls:List (List Nat)}(hl:s.heap.IsList l us.toArray)(r:Vals (ls.map tx) us):Walked prog w (.ref l) s "list" ls.length (fun i=>ls.getD i []) where
 ty:=fun s1 k=>by
  obtain⟨o,ho,hc,_⟩:=hl
  exact⟨o,k _ _ ho,hc⟩
 go:=fun A s1 Q E hh k h=>by
  obtain⟨o,ho,hc,hr⟩:=id hl
  have hl1:s1.heap.IsList l us.toArray:=⟨o,k _ _ ho,hc,hr⟩
  have hlt:=Heap.lt_size ho
  have hlt1:=Heap.lt_size (k _ _ ho)
  have hlen:us.toArray.size=ls.length:=by rw[List.size_toArray,←r.length,List.length_map]
  refine wpAny_pyIter_list hl1 ?_
  have W:∀A':Around,A'.handled=none→Walks prog w A' s1.heap.objs.size [s1.heap.objs.size,l] [s1.heap.objs.size] ls.length (fun i v=>us.toArray[i]?=some v) (fun i h=>h.IsListIter s1.heap.objs.size l i∧h.IsList l us.toArray):=fun A' hA=>by
   have q:=Walks.list (prog:=prog) (w:=w) hA s1.heap.objs.size l (Nat.ne_of_lt hlt1) us.toArray
   rwa [hlen]at q
  refine h _ _ _ _ _ _ W ⟨⟨_,Heap.get?_push_size _ rfl,rfl,rfl⟩,hl1.push _⟩ (fun b hb=>?_) (fun b hb=>?_) (fun b o e=>Heap.get?_push_of_some _ e) (fun i v e=>?_)
  ·rcases List.mem_cons.mp hb with z | z
   ·exact .inr (Nat.le_of_eq z.symm)
   ·have z:b=l:=by simpa using z
    rw[z];exact .inl hlt
  ·have z:b=s1.heap.objs.size:=by simpa using hb
   exact Nat.le_of_eq z.symm
  ·have e':us[i]?=some v:=by simpa using e
   obtain⟨v',hv',rv⟩:=vals_at r e'
   rw[List.getElem?_map]at hv'
   cases q:ls[i]? with
   | none=>rw[q]at hv';cases hv'
   | some m=>
    rw[q]at hv'
    cases hv'
    obtain⟨t,rfl⟩:=rv
    exact⟨t,by rw[List.getD_eq_getElem?_getD,q];rfl⟩
theorem walked_text {prog:Program}{w:World}{s:Shared}{l:List Nat}{t:Tok}:Walked prog w (.str ⟨l.toArray⟩ t) s "str" l.length (fun i=>[l.getD i 0]) where
 ty:=fun s1 _=>typeIs_str s1 _ _
 go:=fun A s1 Q E hh k h=>by
  have hlen:(⟨l.toArray⟩:Str).cps.size=l.length:=by show l.toArray.size=_;simp
  have item:∀(i:Nat) (v:Value),(∃c u,(⟨l.toArray⟩:Str).cps[i]?=some c∧v=.str ⟨#[c]⟩ u)→∃t,v=.str ⟨[l.getD i 0].toArray⟩ t:=by
   rintro i v ⟨c,u,e,rfl⟩
   have e':l[i]?=some c:=by simpa using e
   exact⟨u,by rw[List.getD_eq_getElem?_getD,e'];rfl⟩
  refine wpAny_pyIter_str fun o St W st=>?_
  rw[hlen]at W
  refine h _ _ _ _ _ _ W st (fun b hb=>.inr ?_) (fun b hb=>?_) (fun b o e=>Heap.get?_push_of_some _ e) (fun i v ⟨c,u,e,e2⟩=>item i v ⟨c,u,e,e2⟩)
  ·have z:b=s1.heap.objs.size:=by simpa using hb
   exact Nat.le_of_eq z.symm
  ·have z:b=s1.heap.objs.size:=by simpa using hb
   exact Nat.le_of_eq z.symm
section
variable {prog:Program}{w:World}{A:Around}{E:Value→Shared→Prop}{s:Shared}
abbrev noSet (led:Bool):Obj:={ cls:=.type "set",dict:=none,data:=.set #[] 0 (.fresh 0 0 led) }
theorem txset_new {h:Heap}{a:Addr}{led:Bool}(ho:h.get? a=some (noSet led)):TxSet prog w h a [] led:=
 ⟨_,#[],0,_,[],ho,⟨rfl,rfl,rfl⟩,rfl,fun e he=>by simp at he,rfl,rfl,fun _=>rfl,.refl _,.nil,by show 0<4096;decide⟩
def byTxt (w:World):Bool:=w.params.followText "set-order"
theorem set_new (a:Value){Q₁:Value→Shared→Prop}(h:Q₁ (.ref s.heap.objs.size) { s with heap:=s.heap.push (noSet (!byTxt w)) }):
  codeAny (model prog w) A (.call (.builtin "set.__new__") ⟨[.type "set",a],[]⟩) (wants Q₁ E) s:=by
 refine codeAny_of_tree ?_
 show wpAny _ A.in1 (checkBuiltinCall "set.__new__" ⟨[.type "set",a],[]⟩ >>= fun _=>again (.builtin "set.__new__" ⟨[.type "set",a],[]⟩)) _ _ s
 refine wpAny_bind (wpAny_of_eq (F.newCall_set_1 a) (wpAny_pure ⟨plainId_quiet F.plain_set_new _,codeAny_builtin F.entry_set_new ?_⟩))
 rw[Around.under_plainId F.plain_set_new _]
 unfold Builtin.«set.__new__» Builtin.Frozenset.newClass
 have hsub:=sub_set_self
 obtain⟨hp,g,d,tk,os⟩:=s
 dsimp only
 wp_walk
 refine wpAny_askSetting (wpAny_pure ?_)
 dsimp only
 simp only[newObj]
 exact wpAny_bind (wpAny_alloc (wpAny_pure (wpAny_pure h)))
set_option maxHeartbeats 3200000 in
theorem set_call {x:Value} {T:String} {n:Nat} {val:Nat→List Nat} {Q:Value→Shared→Prop} (hh:A.handled=none) (W:Walked prog w x s T n val) (t1:isSubtype (.type T) (.type "set")=pure false) (t2:isSubtype (.type T) (.type "frozenset")=pure false)
  (t3:(Value.type T == Value.type "dict")=false) (hb:n+1<scanBound)
  (h:∀(h':Heap) (tk:Nat),TxSet prog w h' s.heap.objs.size (dd val n) (!byTxt w)→(∀b o,s.heap.get? b=some o→h'.get? b=some o)→s.toks≤tk→Q (.ref s.heap.objs.size) { s with heap:=h',toks:=tk }):
  wpAny (model prog w) A (call (.type "set") [x]) Q E s:=by
 obtain⟨c,tl,hmro⟩:=F.called_set.mro
 have hmade:=F.called_set.made
 have hsub:=F.called_set.sub
 refine wpAny_call (codeAny_of_tree ?_)
 show wpAny _ _ (callAny (.type "set") _) _ _ _
 refine wpAny_pure ⟨Code.quiet_builtin _ (by decide +kernel),codeAny_builtin F.entry_type_call ?_⟩
 rw[Around.under_plain (weight_type_call_type "set" [x] []) rfl]
 have h1:=F.called_set.notType
 have h2:=F.called_set.canCreate
 have hct:=F.typeCall_set_1 x
 repeat (any_goals (first | assumption | wp_step))
 refine codeAny_mono (set_new x (E:=E) (Q₁:=fun ob s₁=>ob=.ref s.heap.objs.size∧s₁={ s with heap:=s.heap.push (noSet (!byTxt w)) }) ⟨rfl,rfl⟩) fun r s₁ hr=>?_
 cases r with
 | error e=>exact hr
 | ok fl=>
  cases fl with
  | ret ob=>
   obtain⟨rfl,rfl⟩:=hr
   have hS:(s.heap.push (noSet (!byTxt w))).get? s.heap.objs.size=some (noSet (!byTxt w)):=Heap.get?_push_size _ rfl
   have hT:Shared.TypeIs { s with heap:=s.heap.push (noSet (!byTxt w)) } (.ref s.heap.objs.size) "set":=⟨_,hS,rfl⟩
   have hli:=F.called_set.init.lookup
   have hbi:=F.called_set.init.bind (.ref s.heap.objs.size)
   have keep1:∀b o,s.heap.get? b=some o→(s.heap.push (noSet (!byTxt w))).get? b=some o:=fun b o e=>Heap.get?_push_of_some _ e
   repeat (any_goals (first | assumption | wp_step))
   refine codeAny_mono (codeAny_call_builtin (R:=wants (fun r s₂=>r=.none∧∃h' tk,s₂={ s with heap:=h',toks:=tk }∧TxSet prog w h' s.heap.objs.size (dd val n) (!byTxt w)∧(∀b o,s.heap.get? b=some o→h'.get? b=some o)∧s.toks≤tk) E)
    F.called_set.init.plain F.entry_set_init (check_set_init_1 hT ?_)) fun r₂ s₂ hr₂=>?_
   ·have hTx:=W.ty { s with heap:=s.heap.push (noSet (!byTxt w)) } keep1
    unfold Builtin.«set.__init__» noKeywords Builtin.Frozenset.updateFrom
    generalize hPI:pyIter=PI
    wp_walk
    subst hPI
    refine W.go _ _ _ _ (by simp[hh]) keep1 fun h2 I fp wr Pi St Wk st f1 f2 k2 hval=>?_
    refine wpAny_bind (wpAny_runValue ?_)
    have hSf:s.heap.objs.size∉fp:=fun z=>by
     rcases f1 _ z with q | q
     ·exact Nat.lt_irrefl _ q
     ·rw[Heap.size_push]at q;exact absurd q (Nat.not_succ_le_self _)
    refine set_loop ((Wk A.in1.in1.in1 (by simp[hh])).toS) s.heap.objs.size hSf val hval hb (n-0) 0 _ (by omega) (Nat.zero_le _) st (txset_new (k2 _ _ hS)) fun s' hm hS'=>?_
    obtain⟨h',g',d',tk',os'⟩:=s'
    have eg:g'=s.gens:=hm.gens
    have ed:d'=s.drawn:=hm.drawn
    have eo:os'=s.os:=hm.os
    have et:s.toks≤tk':=hm.toks
    subst eg ed eo
    refine wpAny_pure ?_
    refine wpAny_pure ⟨rfl,h',tk',rfl,hS',fun b o e=>?_,et⟩
    have hlt:=Heap.lt_size e
    refine hm.heap b o (fun z=>?_) (k2 b o (keep1 b o e))
    rcases List.mem_cons.mp z with q | q
    ·rw[q]at hlt;exact Nat.lt_irrefl _ hlt
    ·have q2:=f2 b q
     rw[Heap.size_push]at q2
     exact absurd (Nat.lt_of_lt_of_le hlt (Nat.le_of_succ_le q2)) (Nat.lt_irrefl _)
   ·cases r₂ with
    | error e=>exact hr₂
    | ok fl₂=>
     cases fl₂ with
     | ret r=>
      obtain⟨rfl,h',tk,rfl,hS',hk',htk⟩:=hr₂
      repeat (any_goals (first | assumption | wp_step))
      exact h _ _ hS' hk' htk
     | _=>exact hr₂.elim
  | _=>exact hr.elim
end
theorem erase_perm {α:Type}:∀(xs:List α) (i:Nat) (h:i<xs.length),(xs[i]::xs.eraseIdx i).Perm xs
 | x::xs,0,_=>.refl _
 | x::xs,i+1,h=>by
  have hi:i<xs.length:=by simpa using h
  have ih:=erase_perm xs i hi
  show (xs[i]::x::xs.eraseIdx i).Perm (x::xs)
  exact(List.Perm.swap _ _ _).trans (ih.cons x)
section
variable {M:Model}{A:Around}{E:Value→Shared→Prop}{s:Shared}
theorem wp_choose' {src:Source}{n:Nat}{Q:Nat→Shared→Prop}(hn:n≠0)(h:∀i d,i<n→Q i { s with drawn:=d }):wpAny M A (choose src n) Q E s:=fun Γ p hΓ=>by
 unfold choose
 rw[Sem.wp_choose]
 exact⟨hn,h _ _ (Nat.mod_lt _ (Nat.pos_of_ne_zero hn))⟩
theorem wp_drawOrder {α:Type}:∀(n:Nat) (xs:List α) (s:Shared) (Q:List α→Shared→Prop),xs.length=n→(∀ys d,ys.Perm xs→Q ys { s with drawn:=d })→wpAny M A (drawOrder n xs) Q E s
 | 0,xs,s,Q,hl,h=>by
  have e:xs=[]:=List.eq_nil_of_length_eq_zero hl
  subst e
  unfold drawOrder
  exact wpAny_pure (h [] s.drawn (.refl _))
 | n+1,[],s,Q,hl,h=>by cases hl
 | n+1,x::xs,s,Q,hl,h=>by
  unfold drawOrder
  refine wpAny_bind (wp_choose' (by simp) fun i d hi=>?_)
  have e:(x::xs)[i]?=some (x::xs)[i]:=List.getElem?_eq_getElem hi
  rw[e]
  dsimp only
  refine wpAny_bind (wp_drawOrder n ((x::xs).eraseIdx i) _ _ ?_ fun ys d' p=>wpAny_pure ?_)
  ·rw[List.length_eraseIdx_of_lt hi,hl];rfl
  ·refine h _ d' ((List.Perm.cons _ p).trans ?_)
   exact erase_perm _ _ hi
end
theorem entry_set_iter:entryFor table "set.__iter__"=some Builtin.«frozenset.__iter__»:=entryFor_alias (id':="frozenset.__iter__") (by kernel_rfl) rfl (by decide +kernel) (by kernel_rfl)
theorem slot_setiter_next:Slot "set_iterator" "__next__" "set_iterator.__next__":=
 .of (owner:="set_iterator") (n:="__next__") (by rw[typeLookup_type,builtinLookup_eq_fast];kernel_rfl) (by decide +kernel) (by decide +kernel) (by decide +kernel)
  (by first | exact .inl (by decide +kernel) | exact .inr (by decide +kernel)) (by rw[isSubtype_type];kernel_rfl)
theorem entry_setiter_next:entryFor table "set_iterator.__next__"=some Builtin.«set_iterator.__next__»:=entryFor_of_fast (by kernel_rfl)
theorem args_setiter_next (a:Value):argsOk "set_iterator.__next__" ⟨[a],[]⟩:=by unfold argsOk;kernel_rfl
section
variable {prog:Program}{w:World}{A:Around}{E:Value→Shared→Prop}{s:Shared}
def SetIt (h:Heap)(I S:Addr)(first:Value)(i n ep:Nat):Prop:=∃o,h.get? I=some o∧o.cls=.type "set_iterator"∧o.data=.fields #[first,.int i 0,.ref S,.int n 0,.int ep 0]
theorem fits_no {t:SetTable}{n:Nat}(hf:t.fits n=true):(t.place.size != n || decide (t.fill>t.mask))=false:=by
 simp only[SetTable.fits,Bool.and_eq_true,beq_iff_eq,decide_eq_true_eq]at hf
 simp[hf.1,Nat.not_lt.mpr hf.2]
theorem iter_set {S:Addr}{o:Obj}{es:Array (Int×Value)}{ep:Nat}{t:SetTable}{Q:Value→Shared→Prop}(ho:s.heap.get? S=some o)(hex:o.ExactSet)(hd:o.data=.set es ep t)(hf:t.fits es.size=true)(hz:es.size≤sizeLine)
  (h0:(byTxt w=true∨(t.plain=true∨es.size≤1))→Q (.ref s.heap.objs.size) { s with heap:=s.heap.push { cls:=.type "set_iterator",data:=.fields #[.int 0 0,.int 0 0,.ref S,.int es.size 0,.int ep 0] } })
  (h1:∀(ps:List Nat) (d:Drawn),ps.Perm (List.range es.size)→Q (.ref (s.heap.objs.size+1)) { s with drawn:=d,heap:=(Heap.push s.heap { cls:=.type "tuple",data:=.seq (ps.map (fun i=>Value.int ((i:Nat):Int) 0)).toArray }).push { cls:=.type "set_iterator",data:=.fields #[.ref s.heap.objs.size,.int 0 0,.ref S,.int es.size 0,.int ep 0] } }):wpAny (model prog w) A (pyIter (.ref S)) Q E s:=by
 have hT:s.TypeIs (.ref S) "set":=⟨o,ho,hex.1⟩
 refine wpAny_pyIter_slot hT F.slot_set_iter (wpAny_call_entry F.slot_set_iter hT entry_set_iter ?_ (F.args_set_iter_1 _))
 unfold Builtin.«frozenset.__iter__» Builtin.Frozenset.sizeOf setDrawn setsByText
 wp_walk
 rw[hd]
 dsimp only
 rw[fits_no hf]
 rw[if_neg Bool.false_ne_true]
 refine wpAny_pure (wpAny_pure (wpAny_pure ?_))
 refine wpAny_bind (wpAny_bind (wpAny_setState_of ho hd hf ?_))
 dsimp only
 refine wpAny_bind (wpAny_bind (wpAny_askSetting (wpAny_pure (wpAny_pure ?_))))
 show wpAny _ _ (if (!byTxt w&&(!t.plain&&decide (es.size>1)))=true then _ else _) _ _ _
 split
 ·refine wpAny_bind (wp_drawOrder es.size (List.range es.size) _ _ (by simp) fun ps d p=>?_)
  refine wpAny_bind ?_
  simp only[newTuple]
  refine wpAny_newObj_type ?_ (by show (List.map _ ps).toArray.size≤sizeLine;rw[List.size_toArray,List.length_map,p.length_eq,List.length_range];exact hz)
  refine wpAny_bind (wpAny_setEpoch_of (Heap.get?_push_of_some _ ho) hd hf (wpAny_bind (wpAny_newObj_type (wpAny_pure ⟨_,rfl,"set_iterator",_,⟨_,Heap.get?_push_size _ rfl,rfl⟩,slot_setiter_next.lookup,?_⟩))))
  have q:=h1 ps d p
  rw[Heap.size_push]
  exact q
 ·rename_i hb
  refine wpAny_bind (wpAny_pure ?_)
  refine wpAny_bind (wpAny_setEpoch_of ho hd hf (wpAny_bind (wpAny_newObj_type (wpAny_pure ⟨_,rfl,"set_iterator",_,⟨_,Heap.get?_push_size _ rfl,rfl⟩,slot_setiter_next.lookup,h0 ?_⟩))))
  cases h:byTxt w with
  | true=>exact .inl rfl
  | false=>
   refine .inr ?_
   cases h':t.plain with
   | true=>exact .inl rfl
   | false=>
    rw[h,h']at hb
    simp at hb
    exact .inr hb
end
section
variable {prog:Program}{w:World}{A:Around}{E:Value→Shared→Prop}{s:Shared}{I S:Addr}{o:Obj}{es:Array (Int×Value)}{ep i n:Nat}{t:SetTable}
theorem SetIt.typ {first:Value}(h:SetIt s.heap I S first i n ep):s.TypeIs (.ref I) "set_iterator":=let ⟨o,h1,h2,_⟩:=h;⟨o,h1,h2⟩
abbrev bySlot (I S:Addr)(slot i ep:Nat):Sem PySem.Fin:=do
 match ←setNext S slot i ep with
 | some (x,next)=>do
  setField (.ref I) 0 (rawInt (next:Nat))
  setField (.ref I) 1 (rawInt ((i:Int)+1))
  ret x
 | none=>do
  setField (.ref I) 2 Value.none
  raiseNew (←newExc (Value.type "StopIteration") [])
abbrev byPlace (I S:Addr)(first:Value)(i ep:Nat):Sem PySem.Fin:=do
 match ←seqItems? first with
 | some places=>match places[i]? with
  | some (.int place _)=>do
   let x ←setNextDrawn S place.toNat ep
   setField (.ref I) 1 (rawInt ((i:Int)+1))
   ret x
  | some _=>unsupported "internal:set_iterator"
  | none=>do
   setField (.ref I) 0 (rawInt 0)
   setField (.ref I) 2 Value.none
   raiseNew (←newExc (Value.type "StopIteration") [])
 | _=>unsupported "internal:set_iterator"
abbrev NxQ (prog:Program)(w:World)(A:Around)(Q:Option Value→Shared→Prop)(E:Value→Shared→Prop)(fin:PySem.Fin)(s':Shared):Prop:=∃v,fin=Fin.done (Flow.ret v)∧Q (some v) s'
abbrev NxE (prog:Program)(w:World)(A:Around)(Q:Option Value→Shared→Prop)(E:Value→Shared→Prop)(e:Value)(s':Shared):Prop:=
 wpAny (model prog w) A (do let b ←isInstance e (Value.type "StopIteration");if b=true then pure none else throw e) Q E s'
theorem next_slot {slot:Nat}{Q:Option Value→Shared→Prop}(hi:SetIt s.heap I S (.int (slot:Nat) 0) i es.size ep)(ho:s.heap.get? S=some o)(hd:o.data=.set es ep t)(hf:t.fits es.size=true)
  (h:wpAny (model prog w) A.in1 (bySlot I S slot i ep) (NxQ prog w A Q E) (NxE prog w A Q E) s):wpAny (model prog w) A (pyNext (.ref I)) Q E s:=by
 obtain⟨oi,hoi,hci,hdi⟩:=id hi
 unfold pyNext
 refine wpAny_bind (wpAny_attempt (wpAny_callSpecial?_slot (name:=Str.ofString "__next__") hi.typ slot_setiter_next (wpAny_call_entry slot_setiter_next hi.typ entry_setiter_next ?_ (args_setiter_next _))))
 unfold Builtin.«set_iterator.__next__»
 wp_walk
 rw[hdi]
 dsimp only
 refine wpAny_pure ?_
 dsimp only
 refine wpAny_bind (wpAny_setEntries_of ho hd hf ?_)
 (try dsimp only)
 rw[if_neg (by simp)]
 refine wpAny_mono h (fun fin s' q=>?_) fun e s' q=>q
 obtain⟨v,rfl,q⟩:=q
 exact⟨v,rfl,wpAny_pure q⟩
theorem next_place {tp:Addr}{Q:Option Value→Shared→Prop}(hi:SetIt s.heap I S (.ref tp) i es.size ep)(ho:s.heap.get? S=some o)(hd:o.data=.set es ep t)(hf:t.fits es.size=true)
  (h:wpAny (model prog w) A.in1 (byPlace I S (.ref tp) i ep) (NxQ prog w A Q E) (NxE prog w A Q E) s):wpAny (model prog w) A (pyNext (.ref I)) Q E s:=by
 obtain⟨oi,hoi,hci,hdi⟩:=id hi
 unfold pyNext
 refine wpAny_bind (wpAny_attempt (wpAny_callSpecial?_slot (name:=Str.ofString "__next__") hi.typ slot_setiter_next (wpAny_call_entry slot_setiter_next hi.typ entry_setiter_next ?_ (args_setiter_next _))))
 unfold Builtin.«set_iterator.__next__»
 wp_walk
 rw[hdi]
 dsimp only
 refine wpAny_pure ?_
 dsimp only
 refine wpAny_bind (wpAny_setEntries_of ho hd hf ?_)
 (try dsimp only)
 rw[if_neg (by simp)]
 refine wpAny_mono h (fun fin s' q=>?_) fun e s' q=>q
 obtain⟨v,rfl,q⟩:=q
 exact⟨v,rfl,wpAny_pure q⟩
theorem stop_it {Q:Option Value→Shared→Prop}(hh:A.handled=none)(hQ:∀h',(∀b o,s.heap.get? b=some o→h'.get? b=some o)→Q none { s with heap:=h' }):
  wpAny (model prog w) A.in1 (do raiseNew (←newExc (Value.type "StopIteration") [])) (NxQ prog w A Q E) (NxE prog w A Q E) s:=by
 refine wpAny_bind ?_
 simp only[newExc,newTuple]
 refine wpAny_bind (wpAny_newObj_type ?_ (by size_fits))
 refine wpAny_bind (m:=firstArgMember _ _) (wpAny_of_eq (a:=Value.none) (by first | rfl | (simp only[firstArgMember];rfl)) ?_)
 refine wpAny_newObj_type ?_ (by size_fits)
 simp only[raiseNew]
 refine wpAny_bind (wpAny_handled ?_)
 rw[show A.in1.handled=none from hh]
 refine wpAny_bind (wpAny_pure (wpAny_throw ?_))
 refine wpAny_bind (wpAny_isInstance (T:="StopIteration") (b:=true) ⟨_,Heap.get?_push_size _ rfl,rfl⟩ isSubtype_stop ?_)
 exact wpAny_pure (hQ _ fun b o e=>Heap.get?_push_of_some _ (Heap.get?_push_of_some _ e))
theorem it_put {h:Heap} {v:Value} {k:Nat} {oi:Obj} {vs:Array Value} (hoi:h.get? I=some oi) (hci:oi.cls=.type "set_iterator") (hdi:oi.data=.fields vs):
  ∃o',(h.update I (Obj.mapFields (·.setIfInBounds k v))).get? I=some o'∧o'.cls=.type "set_iterator"∧o'.data=.fields (vs.setIfInBounds k v):=
 ⟨_,Heap.get?_update_self _ hoi (Obj.isFreed_of_fields (Obj.data_mapFields hdi _)),(Obj.cls_mapFields ..).trans hci,Obj.data_mapFields hdi _⟩
theorem setNext_txt {slot:Nat}{Q:Option (Value×Nat)→Shared→Prop}(ho:s.heap.get? S=some o)(hd:o.data=.set es ep t)(hf:t.fits es.size=true)(hb:byTxt w=true)
  (h:Q (((pickOrder (w.params.setOrder S ep) es)[i]?).map fun e=>(e.2,slot)) s):wpAny (model prog w) A (setNext S slot i ep) Q E s:=by
 unfold setNext
 refine wpAny_bind (wpAny_setState_of ho hd hf ?_)
 dsimp only
 unfold setsByText
 refine wpAny_bind (wpAny_bind (wpAny_askSetting (wpAny_pure ?_)))
 show wpAny _ _ (if byTxt w=true then _ else _) _ _ _
 rw[hb,if_pos rfl,if_neg (by simp)]
 unfold setWalk
 refine wpAny_bind (wpAny_bind (wpAny_setState_of ho hd hf ?_))
 dsimp only
 unfold setsByText
 refine wpAny_bind (wpAny_bind (wpAny_askSetting (wpAny_pure ?_)))
 show wpAny _ _ (if byTxt w=true then _ else _) _ _ _
 rw[hb,if_pos rfl]
 exact wpAny_bind (wpAny_askSetting (wpAny_pure (wpAny_pure h)))
theorem setNext_one {slot:Nat}{Q:Option (Value×Nat)→Shared→Prop}(ho:s.heap.get? S=some o)(hd:o.data=.set es ep t)(hf:t.fits es.size=true)(hb:byTxt w=false)(hl:t.led=true)(h1:es.size≤1)
  (h:Q (match es[SetTable.below t.place slot]?,t.place[SetTable.below t.place slot]? with | some (_,x),some j=>some (x,j+1) | _,_=>none) s):wpAny (model prog w) A (setNext S slot i ep) Q E s:=by
 unfold setNext
 refine wpAny_bind (wpAny_setState_of ho hd hf ?_)
 dsimp only
 unfold setsByText
 refine wpAny_bind (wpAny_bind (wpAny_askSetting (wpAny_pure ?_)))
 show wpAny _ _ (if byTxt w=true then _ else (if (!t.plain&&decide (es.size>1))=true then _ else _)) _ _ _
 have hn:¬es.size>1:=by omega
 rw[hb,if_neg Bool.false_ne_true,decide_eq_false hn,Bool.and_false,if_neg Bool.false_ne_true]
 show wpAny _ _ ((if (!t.led&&!es.isEmpty)=true then (do let _ ←(unsupported "set:maker-not-led":Sem Unit);pure ()) else pure ()) >>= fun _=>_) _ _ _
 rw[hl,Bool.not_true,Bool.false_and,if_neg Bool.false_ne_true]
 exact wpAny_bind (wpAny_pure (wpAny_pure h))
end
theorem pick_perm {α:Type}{next:Nat→Nat}:∀(fuel k:Nat) (left:List α) (out:Array α),left.length=fuel→(pickOrder.go next fuel k left out).toList.Perm (out.toList++left)
 | 0,k,left,out,h=>by
  have e:left=[]:=List.eq_nil_of_length_eq_zero h
  subst e
  unfold pickOrder.go
  simp
 | fuel+1,k,left,out,h=>by
  have hlt:next k % left.length<left.length:=Nat.mod_lt _ (by omega)
  unfold pickOrder.go
  rw[List.getElem?_eq_getElem hlt]
  dsimp only
  refine(pick_perm fuel (k+1) _ _ (by rw[List.length_eraseIdx_of_lt hlt,h];rfl)).trans ?_
  rw[Array.toList_push,List.append_assoc]
  exact(erase_perm left _ hlt).append_left _
theorem pickOrder_perm {α:Type}{next:Nat→Nat}{xs:Array α}:(pickOrder next xs).toList.Perm xs.toList:=by
 unfold pickOrder
 have:=pick_perm (next:=next) xs.size 0 xs.toList #[] (by simp)
 simpa using this
theorem slot_setiter_iter:Slot "set_iterator" "__iter__" "set_iterator.__iter__":=
 .of (owner:="set_iterator") (n:="__iter__") (by rw[typeLookup_type,builtinLookup_eq_fast];kernel_rfl) (by decide +kernel) (by decide +kernel) (by decide +kernel) (by first | exact .inl (by decide +kernel) | exact .inr (by decide +kernel)) (by rw[isSubtype_type];kernel_rfl)
theorem entry_setiter_iter:entryFor table "set_iterator.__iter__"=some Builtin.«dict_keyiterator.__iter__»:=entryFor_alias (id':="dict_keyiterator.__iter__") (by kernel_rfl) rfl (by decide +kernel) (by kernel_rfl)
theorem args_setiter_iter (a:Value):argsOk "set_iterator.__iter__" ⟨[a],[]⟩:=by unfold argsOk;kernel_rfl
section
variable {prog:Program}{w:World}{A:Around}{E:Value→Shared→Prop}{s:Shared}{I S:Addr}{o:Obj}{es:Array (Int×Value)}{ep i n:Nat}{t:SetTable}
theorem iter_self {first:Value}{Q:Value→Shared→Prop}(hi:SetIt s.heap I S first i n ep)(h:Q (.ref I) s):wpAny (model prog w) A (pyIter (.ref I)) Q E s:=by
 refine wpAny_pyIter_slot hi.typ slot_setiter_iter (wpAny_call_entry slot_setiter_iter hi.typ entry_setiter_iter ?_ (args_setiter_iter _))
 show wpAny _ _ (ret (.ref I)) _ _ s
 exact wpAny_pure ⟨_,rfl,"set_iterator",_,hi.typ,slot_setiter_next.lookup,h⟩
theorem keep_other {h h':Heap}{o:Obj}(sb:Heap.SameBut I h h')(hne:S≠I)(ho:h.get? S=some o):h'.get? S=some o:=(sb.2 S hne).trans ho
theorem walks_txt (hh:A.handled=none)(hne:S≠I)(hd:o.data=.set es ep t)(hf:t.fits es.size=true)(hb:byTxt w=true):
  Walks prog w A I [I,S] [I] es.size (fun i v=>(((pickOrder (w.params.setOrder S ep) es).toList).map (·.2))[i]?=some v) (fun i h=>SetIt h I S (.int ((0:Nat):Int) 0) i es.size ep∧h.get? S=some o) where
 sub:=fun b hb=>by simp at hb;simp[hb]
 frame:=fun i h h' ⟨⟨oi,h1,r⟩,h2⟩ hk=>⟨⟨oi,hk I (by simp) _ h1,r⟩,hk S (by simp) _ h2⟩
 item:=fun i s Q E hi ⟨st,ho⟩ hQ=>by
  have hl:(pickOrder (w.params.setOrder S ep) es).size=es.size:=by rw[←Array.length_toList,pickOrder_perm.length_eq,Array.length_toList]
  have he:(pickOrder (w.params.setOrder S ep) es)[i]?=some (pickOrder (w.params.setOrder S ep) es)[i]:=by simp[hl,hi]
  refine next_slot st ho hd hf (wpAny_bind (setNext_txt ho hd hf hb ?_))
  rw[he]
  dsimp only[Option.map_some]
  obtain⟨oi,g1,g2,g3⟩:=id st
  refine wpAny_bind (wpAny_setField g1 g3 (by simp) ?_)
  obtain⟨o1,k1,k2,k3⟩:=it_put (v:=rawInt ((0:Nat):Int)) (k:=0) g1 g2 g3
  refine wpAny_bind (wpAny_setField k1 k3 (by simp) ?_)
  obtain⟨o2,m1,m2,m3⟩:=it_put (v:=rawInt ((i:Int)+1)) (k:=1) k1 k2 k3
  have sb:=(Heap.SameBut.update s.heap I (Obj.mapFields (·.setIfInBounds 0 (rawInt ((0:Nat):Int))))).trans (Heap.SameBut.update _ I (Obj.mapFields (·.setIfInBounds 1 (rawInt ((i:Int)+1)))))
  refine wpAny_pure ⟨_,rfl,hQ _ _ s.toks ?_ ⟨⟨o2,m1,m2,?_⟩,keep_other sb hne ho⟩ fun b o hb e=>(sb.2 b (by simpa using hb)).trans e⟩
  ·rw[List.getElem?_map,Array.getElem?_toList,he];rfl
  ·rw[m3];simp[rawInt]
 done:=fun s Q E ⟨st,ho⟩ hQ=>by
  have hl:(pickOrder (w.params.setOrder S ep) es).size=es.size:=by rw[←Array.length_toList,pickOrder_perm.length_eq,Array.length_toList]
  have he:(pickOrder (w.params.setOrder S ep) es)[es.size]?=none:=by simp[hl]
  refine next_slot st ho hd hf (wpAny_bind (setNext_txt ho hd hf hb ?_))
  rw[he]
  dsimp only[Option.map_none]
  obtain⟨oi,g1,g2,g3⟩:=id st
  refine wpAny_bind (wpAny_setField g1 g3 (by simp) ?_)
  have sb:=Heap.SameBut.update s.heap I (Obj.mapFields (·.setIfInBounds 2 Value.none))
  exact stop_it (A:=A) hh fun h' k=>hQ h' s.toks fun b o hb e=>k b o ((sb.2 b (by simpa using hb)).trans e)
 self:=fun i s Q E ⟨st,_⟩ hQ=>iter_self st hQ
def oneSlot (t:SetTable)(i:Nat):Nat:=if i=0 then 0 else t.place.getD 0 0+1
theorem below_zero {xs:Array Nat}:SetTable.below xs 0=0:=by
 unfold SetTable.below
 have all:∀fuel hi,SetTable.below.go xs 0 fuel 0 hi=0:=by
  intro fuel
  induction fuel with
  | zero=>intro hi;unfold SetTable.below.go;rfl
  | succ f ih=>
   intro hi
   unfold SetTable.below.go
   split
   ·rw[if_neg (Nat.not_lt_zero _)];exact ih _
   ·rfl
 exact all _ _
theorem below_one {j:Nat}:SetTable.below #[j] (j+1)=1:=by
 unfold SetTable.below
 show SetTable.below.go #[j] (j+1) 1 0 1=1
 unfold SetTable.below.go
 simp[SetTable.below.go]
theorem one_of {xs:Array Nat}(h:xs.size=1):∃j,xs=#[j]:=by
 obtain⟨l⟩:=xs
 match l,h with
 | [j],_=>exact⟨j,rfl⟩
theorem walks_one (hh:A.handled=none)(hne:S≠I)(hd:o.data=.set es ep t)(hf:t.fits es.size=true)(hb:byTxt w=false)(hl:t.led=true)(h1:es.size≤1):
  Walks prog w A I [I,S] [I] es.size (fun i v=>(es.toList.map (·.2))[i]?=some v) (fun i h=>SetIt h I S (.int ((oneSlot t i:Nat):Int) 0) i es.size ep∧h.get? S=some o) where
 sub:=fun b hb=>by simp at hb;simp[hb]
 frame:=fun i h h' ⟨⟨oi,h1,r⟩,h2⟩ hk=>⟨⟨oi,hk I (by simp) _ h1,r⟩,hk S (by simp) _ h2⟩
 item:=fun i s Q E hi ⟨st,ho⟩ hQ=>by
  have i0:i=0:=by omega
  subst i0
  have ps:t.place.size=es.size:=by
   have:=hf
   simp only[SetTable.fits,Bool.and_eq_true,beq_iff_eq]at this
   exact this.1
  have he:es[0]?=some es[0]:=by simp[hi]
  have hp:t.place[0]?=some (t.place.getD 0 0):=by
   have:0<t.place.size:=by omega
   simp[this]
  refine next_slot st ho hd hf (wpAny_bind (setNext_one ho hd hf hb hl h1 ?_))
  rw[show oneSlot t 0=0 from rfl,below_zero,he,hp]
  dsimp only
  obtain⟨oi,g1,g2,g3⟩:=id st
  refine wpAny_bind (wpAny_setField g1 g3 (by simp) ?_)
  obtain⟨o1,k1,k2,k3⟩:=it_put (v:=rawInt ((t.place.getD 0 0+1:Nat):Int)) (k:=0) g1 g2 g3
  refine wpAny_bind (wpAny_setField k1 k3 (by simp) ?_)
  obtain⟨o2,m1,m2,m3⟩:=it_put (v:=rawInt (((0:Nat):Int)+1)) (k:=1) k1 k2 k3
  have sb:=(Heap.SameBut.update s.heap I (Obj.mapFields (·.setIfInBounds 0 (rawInt ((t.place.getD 0 0+1:Nat):Int))))).trans (Heap.SameBut.update _ I (Obj.mapFields (·.setIfInBounds 1 (rawInt (((0:Nat):Int)+1)))))
  refine wpAny_pure ⟨_,rfl,hQ _ _ s.toks ?_ ⟨⟨o2,m1,m2,?_⟩,keep_other sb hne ho⟩ fun b o hb e=>(sb.2 b (by simpa using hb)).trans e⟩
  ·rw[List.getElem?_map,Array.getElem?_toList,he];rfl
  ·rw[m3];simp[rawInt,oneSlot]
 done:=fun s Q E ⟨st,ho⟩ hQ=>by
  have ps:t.place.size=es.size:=by
   have:=hf
   simp only[SetTable.fits,Bool.and_eq_true,beq_iff_eq]at this
   exact this.1
  have hn:es[SetTable.below t.place (oneSlot t es.size)]?=none:=by
   have hz:es.size=0∨es.size=1:=by omega
   rcases hz with z | z
   ·simp[z]
   ·have e1:∃j,t.place=#[j]:=by
     have:t.place.size=1:=by omega
     exact one_of this
    obtain⟨j,ej⟩:=e1
    have:oneSlot t es.size=j+1:=by unfold oneSlot;rw[if_neg (by omega),ej];rfl
    rw[this,ej,below_one]
    simp[z]
  refine next_slot st ho hd hf (wpAny_bind (setNext_one ho hd hf hb hl h1 ?_))
  rw[hn]
  dsimp only
  obtain⟨oi,g1,g2,g3⟩:=id st
  refine wpAny_bind (wpAny_setField g1 g3 (by simp) ?_)
  have sb:=Heap.SameBut.update s.heap I (Obj.mapFields (·.setIfInBounds 2 Value.none))
  exact stop_it (A:=A) hh fun h' k=>hQ h' s.toks fun b o hb e=>k b o ((sb.2 b (by simpa using hb)).trans e)
 self:=fun i s Q E ⟨st,_⟩ hQ=>iter_self st hQ
theorem next_drawn {p:Nat}{e:Int×Value}{Q:Value→Shared→Prop}(ho:s.heap.get? S=some o)(hd:o.data=.set es ep t)(hf:t.fits es.size=true)(he:es[p]?=some e)(h:Q e.2 s):wpAny (model prog w) A (setNextDrawn S p ep) Q E s:=by
 unfold setNextDrawn
 refine wpAny_bind (wpAny_setState_of ho hd hf ?_)
 dsimp only
 rw[if_neg (by simp),he]
 exact wpAny_pure h
theorem walks_drawn {tp:Addr}{ps:List Nat}(hh:A.handled=none)(hne:S≠I)(hnt:tp≠I)(hd:o.data=.set es ep t)(hf:t.fits es.size=true)(hp:ps.Perm (List.range es.size)):
  Walks prog w A I [I,S,tp] [I] es.size (fun i v=>(ps.map fun p=>(es.getD p (0,.none)).2)[i]?=some v) (fun i h=>SetIt h I S (.ref tp) i es.size ep∧h.get? S=some o∧h.get? tp=some { cls:=.type "tuple",data:=.seq (ps.map (fun i=>Value.int ((i:Nat):Int) 0)).toArray }) where
 sub:=fun b hb=>by simp at hb;simp[hb]
 frame:=fun i h h' ⟨⟨oi,h1,r⟩,h2,h3⟩ hk=>⟨⟨oi,hk I (by simp) _ h1,r⟩,hk S (by simp) _ h2,hk tp (by simp) _ h3⟩
 item:=fun i s Q E hi ⟨st,ho,ht⟩ hQ=>by
  have hl:ps.length=es.size:=by rw[hp.length_eq,List.length_range]
  have hi':i<ps.length:=by omega
  have hpi:ps[i]?=some ps[i]:=List.getElem?_eq_getElem hi'
  have hlt:ps[i]<es.size:=List.mem_range.mp (hp.mem_iff.mp (List.getElem_mem hi'))
  have he:es[ps[i]]?=some es[ps[i]]:=by simp[hlt]
  refine next_place st ho hd hf (wpAny_bind (wpAny_seqItems ht rfl ?_))
  dsimp only
  have hx:((ps.map (fun i=>Value.int ((i:Nat):Int) 0)).toArray)[i]?=some (Value.int ((ps[i]:Nat):Int) 0):=by simp[hpi]
  rw[hx]
  dsimp only
  refine wpAny_bind (next_drawn ho hd hf he ?_)
  obtain⟨oi,g1,g2,g3⟩:=id st
  refine wpAny_bind (wpAny_setField g1 g3 (by simp) ?_)
  obtain⟨o2,m1,m2,m3⟩:=it_put (v:=rawInt ((i:Int)+1)) (k:=1) g1 g2 g3
  have sb:=Heap.SameBut.update s.heap I (Obj.mapFields (·.setIfInBounds 1 (rawInt ((i:Int)+1))))
  refine wpAny_pure ⟨_,rfl,hQ _ _ s.toks ?_ ⟨⟨o2,m1,m2,?_⟩,keep_other sb hne ho,keep_other sb hnt ht⟩ fun b o hb e=>(sb.2 b (by simpa using hb)).trans e⟩
  ·rw[List.getElem?_map,hpi];simp[hlt]
  ·rw[m3];simp[rawInt]
 done:=fun s Q E ⟨st,ho,ht⟩ hQ=>by
  have hl:ps.length=es.size:=by rw[hp.length_eq,List.length_range]
  refine next_place st ho hd hf (wpAny_bind (wpAny_seqItems ht rfl ?_))
  dsimp only
  have hx:((ps.map (fun i=>Value.int ((i:Nat):Int) 0)).toArray)[es.size]?=none:=by simp[hl]
  rw[hx]
  dsimp only
  obtain⟨oi,g1,g2,g3⟩:=id st
  refine wpAny_bind (wpAny_setField g1 g3 (by simp) ?_)
  obtain⟨o1,k1,k2,k3⟩:=it_put (v:=rawInt 0) (k:=0) g1 g2 g3
  refine wpAny_bind (wpAny_setField k1 k3 (by simp) ?_)
  have sb:=(Heap.SameBut.update s.heap I (Obj.mapFields (·.setIfInBounds 0 (rawInt 0)))).trans (Heap.SameBut.update _ I (Obj.mapFields (·.setIfInBounds 2 Value.none)))
  exact stop_it (A:=A) hh fun h' k=>hQ h' s.toks fun b o hb e=>k b o ((sb.2 b (by simpa using hb)).trans e)
 self:=fun i s Q E ⟨st,_⟩ hQ=>iter_self st hQ
end
theorem hint_set_len:typeLookup (.type "set") "__len__"=pure (some (.builtin "set.__len__")):=by rw[typeLookup_type,builtinLookup_eq_fast];kernel_rfl
section
variable {prog:Program}{w:World}{A:Around}{E:Value→Shared→Prop}{s:Shared}
theorem vals_drawn {es:Array (Int×Value)}{ps:List Nat}(hp:ps.Perm (List.range es.size)):(ps.map fun p=>(es.getD p (0,.none)).2).Perm (es.toList.map (·.2)):=by
 have q:=hp.map (fun p=>(es.getD p (0,.none)).2)
 refine q.trans (.of_eq ?_)
 apply List.ext_getElem
 ·simp
 ·intro n h1 h2
  have hn:n<es.size:=by simpa using h2
  simp[hn]
theorem iter_txset {S:Addr}{ls:List (List Nat)}{Q:Value→Shared→Prop}(hS:TxSet prog w s.heap S ls (!byTxt w))
  (h:∀(h2:Heap) (d:Drawn) (I:Addr) (fp:List Addr) (vs:List Value) (ms:List (List Nat)) (St:Nat→Heap→Prop),(∀A':Around,A'.handled=none→Walks prog w A' I fp [I] ls.length (fun i v=>vs[i]?=some v) St)→St 0 h2 →
   (∀b∈fp,b=S∨s.heap.objs.size≤b)→s.heap.objs.size≤I→(∀b o,s.heap.get? b=some o→h2.get? b=some o)→ms.Perm ls→Vals (ms.map tx) vs→Q (.ref I) { s with heap:=h2,drawn:=d }):
  wpAny (model prog w) A (pyIter (.ref S)) Q E s:=by
 obtain⟨o,es,ep,t,ms,ho,hex,hd,hel,hf,hled,hpl,hp,hv,hb⟩:=hS
 have hlen:es.size=ls.length:=by
  have q:=hv.length
  rw[List.length_map,List.length_map]at q
  rw[←Array.length_toList,←q,hp.length_eq]
 have hlt:=Heap.lt_size ho
 refine iter_set ho hex hd hf (fits_of_scanBound hb) (fun hc=>?_) fun ps d pp=>?_
 ·have nI:S≠s.heap.objs.size:=Nat.ne_of_lt hlt
  have st:(s.heap.push ({ cls:=.type "set_iterator",data:=.fields #[.int 0 0,.int 0 0,.ref S,.int es.size 0,.int ep 0] }:Obj)).get? s.heap.objs.size=some { cls:=.type "set_iterator",data:=.fields #[.int 0 0,.int 0 0,.ref S,.int es.size 0,.int ep 0] }:=Heap.get?_push_size _ rfl
  have fp:∀b∈[s.heap.objs.size,S],b=S∨s.heap.objs.size≤b:=fun b hb=>by
   rcases List.mem_cons.mp hb with z | z
   ·exact .inr (Nat.le_of_eq z.symm)
   ·exact .inl (by simpa using z)
  cases hby:byTxt w with
  | true=>
   obtain⟨ms',p',r'⟩:=vals_perm ((pickOrder_perm (next:=w.params.setOrder S ep) (xs:=es)).map (·.2)) hv
   have W:∀A':Around,A'.handled=none→_:=fun A' hA=>walks_txt (prog:=prog) (w:=w) (A:=A') (I:=s.heap.objs.size) (S:=S) (o:=o) hA nI hd hf hby
   rw[hlen]at W
   exact h _ s.drawn _ _ _ ms' _ W ⟨⟨_,st,rfl,by rw[hlen];rfl⟩,Heap.get?_push_of_some _ ho⟩ fp (Nat.le_refl _) (fun b o e=>Heap.get?_push_of_some _ e) (p'.trans hp) r'
  | false=>
   have h1:es.size≤1:=by
    rcases hc with z | z | z
    ·rw[hby]at z;cases z
    ·rw[hpl z];exact Nat.zero_le _
    ·exact z
   have hl:t.led=true:=by rw[hled,hby];rfl
   have W:∀A':Around,A'.handled=none→_:=fun A' hA=>walks_one (prog:=prog) (w:=w) (A:=A') (I:=s.heap.objs.size) (S:=S) (o:=o) hA nI hd hf hby hl h1
   rw[hlen]at W
   exact h _ s.drawn _ _ _ ms _ W ⟨⟨_,st,rfl,by rw[hlen];rfl⟩,Heap.get?_push_of_some _ ho⟩ fp (Nat.le_refl _) (fun b o e=>Heap.get?_push_of_some _ e) hp hv
 ·have nI:S≠s.heap.objs.size+1:=Nat.ne_of_lt (Nat.lt_succ_of_lt hlt)
  have nT:s.heap.objs.size≠s.heap.objs.size+1:=Nat.ne_of_lt (Nat.lt_succ_self _)
  obtain⟨ms',p',r'⟩:=vals_perm (vals_drawn pp) hv
  have W:∀A':Around,A'.handled=none→_:=fun A' hA=>walks_drawn (prog:=prog) (w:=w) (A:=A') (I:=s.heap.objs.size+1) (S:=S) (o:=o) (tp:=s.heap.objs.size) hA nI nT hd hf pp
  rw[hlen]at W
  refine h _ d _ _ _ ms' _ W ⟨⟨{ cls:=.type "set_iterator",data:=.fields #[.ref s.heap.objs.size,.int 0 0,.ref S,.int es.size 0,.int ep 0] },?_,rfl,by rw[hlen];rfl⟩,Heap.get?_push_of_some _ (Heap.get?_push_of_some _ ho),Heap.get?_push_of_some _ (Heap.get?_push_size _ rfl)⟩ ?_ (Nat.le_succ _) (fun b o e=>Heap.get?_push_of_some _ (Heap.get?_push_of_some _ e)) (p'.trans hp) r'
  ·rw[←Heap.size_push];exact Heap.get?_push_size _ rfl
  ·intro b hb
   rcases List.mem_cons.mp hb with z | z
   ·exact .inr (by rw[z];exact Nat.le_succ _)
   ·rcases List.mem_cons.mp z with z | z
    ·exact .inl z
    ·have z:b=s.heap.objs.size:=by simpa using z
     exact .inr (Nat.le_of_eq z.symm)
theorem collect_set {S:Addr}{ls:List (List Nat)}{Q:List Value→Shared→Prop}(hh:A.handled=none)(hS:TxSet prog w s.heap S ls (!byTxt w))(hn:ls.length≤sizeLine)
  (hQ:∀(s':Shared) (vs:List Value) (ms:List (List Nat)),(∀b o,s.heap.get? b=some o→s'.heap.get? b=some o)→s'.gens=s.gens→s'.os=s.os→ms.Perm ls→Vals (ms.map tx) vs→Q vs s'):wpAny (model prog w) A (collect (.ref S)) Q E s:=by
 unfold collect
 refine wpAny_bind (wpAny_runValue (codeAny_builtin F.entry_proto_collect ?_))
 rw[Around.under_plainId F.plain_proto_collect _]
 show wpAny _ A.in1 (newList [] >>= fun l=>again (.builtin "list.__iadd__" ⟨[l,.ref S],[]⟩)) _ _ s
 refine wpAny_bind (wpAny_newObj_type (wpAny_pure ⟨plainId_quiet F.plain_list_iadd _,codeAny_builtin F.entry_list_iadd ?_⟩))
 rw[Around.under_plainId F.plain_list_iadd _]
 generalize hH:s.heap.push { cls:=.type "list",data:=.seq ([]:List Value).toArray }=H
 have hHs:H.objs.size=s.heap.objs.size+1:=by rw[←hH,Heap.size_push]
 have hL:H.get? s.heap.objs.size=some { cls:=.type "list",data:=.seq ([]:List Value).toArray }:=hH▸Heap.get?_push_size _ rfl
 have k1:∀b o,s.heap.get? b=some o→H.get? b=some o:=fun b o e=>hH▸Heap.get?_push_of_some _ e
 have hS1:TxSet prog w H S ls (!byTxt w):=hS.keep fun o e=>k1 S o e
 have hT:Shared.TypeIs { s with heap:=H } (.ref S) "set":=hS1.typ (s:={ s with heap:=H })
 have nS:S≠s.heap.objs.size:=by
  obtain⟨o,_,_,_,_,ho,_⟩:=hS
  exact Nat.ne_of_lt (Heap.lt_size ho)
 show wpAny _ A.in1 (Builtin.List.listExtendWith (.ref s.heap.objs.size) (.ref S) (.ref s.heap.objs.size)) _ _ { s with heap:=H }
 unfold Builtin.List.listExtendWith
 refine wpAny_bind (wpAny_typeOf hT ?_)
 have h1:Builtin.List.listSameRef (.ref s.heap.objs.size) (.ref S)=false:=by simp[Builtin.List.listSameRef,Ne.symm nS]
 have h2:(Value.type "set" == Value.type "list")=false:=by decide
 have h3:(Value.type "set" == Value.type "tuple")=false:=by decide
 simp only[h1,h2,h3,Bool.or_false,Bool.false_eq_true,if_false]
 refine wpAny_bind (iter_txset (s:={ s with heap:=H }) hS1 fun h2' d I fp vs ms St W st hfp hI k2 hp hv=>?_)
 have hT2:Shared.TypeIs { s with heap:=h2',drawn:=d } (.ref S) "set":=(hS1.keep fun o e=>k2 S o e).typ (s:={ s with heap:=h2',drawn:=d })
 refine wpAny_bind (wpAny_holding ?_)
 unfold Builtin.List.listLengthHint
 refine wpAny_bind (wpAny_specialOf hT2 hint_set_len ?_)
 wp_delta
 refine wpAny_bind (wpAny_isInstance (T:="set") (v:=.ref S) (b:=true) hT2 (by rw[isSubtype_type];kernel_rfl) ?_)
 show wpAny _ A.in1 (typeOf (Value.ref S) >>= fun r=>_) _ _ _
 refine wpAny_bind (wpAny_typeOf hT2 ?_)
 refine wpAny_pure ?_
 rw[if_pos (by decide)]
 refine wpAny_bind (wpAny_rule ?_)
 have hL2:h2'.get? s.heap.objs.size=some { cls:=.type "list",data:=.seq ([]:List Value).toArray }:=k2 _ _ hL
 refine wpAny_bind ?_
 show wpAny _ A.in1 (updateSeq s.heap.objs.size (·.push .none) >>= fun _=>updateSeq s.heap.objs.size (·.pop)) _ _ _
 refine wpAny_bind (wpAny_updateSeq hL2 rfl ?_)
 have hL3:=Heap.get?_update_self (Obj.mapSeq (·.push Value.none)) hL2 rfl
 refine wpAny_updateSeq hL3 rfl ?_
 have hL4:=Heap.get?_update_self (Obj.mapSeq (·.pop)) hL3 rfl
 have oth:∀b o,b≠s.heap.objs.size→h2'.get? b=some o→((h2'.update s.heap.objs.size (Obj.mapSeq (·.push Value.none))).update s.heap.objs.size (Obj.mapSeq (·.pop))).get? b=some o:=
  fun b o hb e=>(Heap.get?_update_other _ _ (Ne.symm hb)).trans ((Heap.get?_update_other _ _ (Ne.symm hb)).trans e)
 have hle:s.heap.objs.size+1≤I:=by rw[←hHs];exact hI
 have hSf:s.heap.objs.size∉fp:=fun z=>by
  rcases hfp _ z with q | q
  ·exact nS q.symm
  ·have q':H.objs.size≤s.heap.objs.size:=q
   rw[hHs]at q';exact absurd q' (Nat.not_succ_le_self _)
 refine wpAny_pure ⟨plainId_quiet F.plain_extend_loop _,codeAny_extend_loopS (W A.in1 hh).toS hn _ hSf _ ls.length 0 _ _ _ rfl (Nat.zero_le _) ((W A.in1 hh).frame 0 h2' _ st fun b hb o e=>oth b o (fun z=>hSf (z▸hb)) e) hL4 (ItemsOf.nil _) fun s' acc' c' hm hS' hacc=>?_⟩
 show wpAny _ A (load s.heap.objs.size >>= fun r=>_) _ _ s'
 refine wpAny_bind (wpAny_load hS' ?_)
 have hvs:acc'.toList=vs:=by
  have hl:vs.length=ls.length:=by rw[←hv.length,List.length_map,hp.length_eq]
  apply List.ext_getElem?
  intro j
  rw[Array.getElem?_toList]
  by_cases hj:j<ls.length
  ·have hj':j<acc'.size:=by rw[hacc.1];exact hj
   have e:acc'[j]?=some acc'[j]:=by simp[hj']
   rw[e,hacc.2 j _ e]
  ·rw[Array.getElem?_eq_none (by rw[hacc.1];omega),List.getElem?_eq_none (by omega)]
 have done:=hQ s' vs ms (fun b o e=>by
  have hlt:=Heap.lt_size e
  refine hm.heap b o (fun z=>?_) (oth b o (Nat.ne_of_lt hlt) (k2 b o (k1 b o e)))
  rcases List.mem_cons.mp z with q | q
  ·rw[q]at hlt;exact Nat.lt_irrefl _ hlt
  ·have q:b=I:=by simpa using q
   rw[q]at hlt
   exact absurd hlt (Nat.not_lt.mpr (Nat.le_of_succ_le hle))) hm.gens hm.os hp hv
 rw[←hvs]at done
 exact wpAny_pure done
end
def leT (a b:List Nat):Bool:=!decide (b<a)
def sortT (ls:List (List Nat)):List (List Nat):=ls.mergeSort leT
theorem leT_iff {a b:List Nat}:leT a b=true↔a≤b:=by
 unfold leT
 rw[Bool.not_eq_true',decide_eq_false_iff_not]
 exact List.not_lt
theorem sortT_perm (ls:List (List Nat)):(sortT ls).Perm ls:=List.mergeSort_perm _ _
theorem sortT_sorted (ls:List (List Nat)):(sortT ls).Pairwise (fun a b=>leT a b=true):=
 List.pairwise_mergeSort (le:=leT) (fun a b c h1 h2=>leT_iff.mpr (List.le_trans (leT_iff.mp h1) (leT_iff.mp h2))) (fun a b=>Bool.or_eq_true_iff.mpr ((List.le_total a b).imp leT_iff.mpr leT_iff.mpr)) ls
theorem sortT_uniq {ms ls:List (List Nat)}(p:ms.Perm ls)(h:ms.Pairwise (fun a b=>leT a b=true)):ms=sortT ls:=
 List.Perm.eq_of_pairwise (fun a b _ _ h1 h2=>List.le_antisymm (leT_iff.mp h1) (leT_iff.mp h2)) h (sortT_sorted ls) (p.trans (sortT_perm ls).symm)
theorem sortT_congr {ms ls:List (List Nat)}(p:ms.Perm ls):sortT ms=sortT ls:=sortT_uniq ((sortT_perm ms).trans p) (sortT_sorted ms)
theorem strs_of:∀ {us:List Value} {ss:List Str},StrsAre us ss→Vals ((ss.map fun x=>x.cps.toList).map tx) us
 | _,_,.nil=>.nil
 | _,_,.cons x t h=>.cons ⟨t,rfl⟩ (strs_of h)
theorem pw_of_sortedS:∀ {ss:List Str},sortedS ss=true→(ss.map fun x=>x.cps.toList).Pairwise (fun a b=>leT a b=true):=by
 have ris:∀(p:Str) (l:List Str),risingS p l=true→((p::l).map fun x=>x.cps.toList).Pairwise (fun a b=>leT a b=true):=by
  intro p l
  induction l generalizing p with
  | nil=>intro _;simp
  | cons x r ih=>
   intro h
   have h':(!ltCps x.cps.toList p.cps.toList&&risingS x r)=true:=h
   rw[Bool.and_eq_true,ltCps_eq]at h'
   have q:=ih x h'.2
   rw[List.map_cons,List.pairwise_cons]
   refine⟨fun b hb=>?_,q⟩
   have hx:leT p.cps.toList x.cps.toList=true:=h'.1
   rw[List.map_cons]at hb q
   rcases List.mem_cons.mp hb with z | z
   ·rw[z];exact hx
   ·exact leT_iff.mpr (List.le_trans (leT_iff.mp hx) (leT_iff.mp ((List.pairwise_cons.mp q).1 b z)))
 intro ss h
 cases ss with
 | nil=>simp
 | cons x r=>exact ris x r h
theorem strs_back {us:List Value}{ls:List (List Nat)}(r:Vals (ls.map tx) us):StrsAre us (ls.map fun l=>(⟨l.toArray⟩:Str)):=strsAre_tx r
theorem back_map (ls:List (List Nat)):(ls.map fun l=>(⟨l.toArray⟩:Str)).map (fun x=>x.cps.toList)=ls:=by
 rw[List.map_map]
 conv=>rhs;rw[←List.map_id ls]
 apply List.map_congr_left
 intro l _
 simp
section
variable {prog:Program}{w:World}{A:Around}{E:Value→Shared→Prop}{s:Shared}
theorem sort_tail {vs:List Value}{ms:List (List Nat)}{Q:Value→Shared→Prop}(hv:Vals (ms.map tx) vs)(h64:ms.length<64)
  (h:∀(h':Heap) (us:List Value) (e:Nat),(∀b o,s.heap.get? b=some o→h'.get? b=some o)→h'.get? s.heap.objs.size=some { cls:=.type "list",data:=.seq us.toArray e }→Vals ((sortT ms).map tx) us→Q (.ref s.heap.objs.size) { s with heap:=h' }):
  wpAny (model prog w) A (do let l ←newList vs;let _ ←holding [l] (call (.builtin "list.sort") [l] []);ret l) (fun fin s'=>∃v,fin=Fin.done (Flow.ret v)∧Q v s') E s:=by
 have hS:=strs_back hv
 have hlen:vs.length<64:=by rw[←hv.length,List.length_map];exact h64
 refine wpAny_bind (wpAny_newList ?_ ?_)
 ·have hoL:(s.heap.push (seqObj "list" vs.toArray 0)).get? s.heap.objs.size=some (seqObj "list" vs.toArray 0):=Heap.get?_push_size _ rfl
  refine wpAny_bind (wpAny_holding (wpAny_call_entry slot_list_sort ⟨_,hoL,rfl⟩ entry_list_sort (list_sort_treeK strKind_oneLt hoL hS.keysOf (fun v₁ v₂ rest e=>keyKind_strs (by rw[←e];exact hS)) hlen fun st' a1 a2=>⟨_,rfl,?_⟩) (args_list_sort _)))
  obtain⟨ss',b1,b2,b3⟩:=sorted_out_str hS a1 a2
  obtain⟨e,he⟩:=sortedHeap_at (out:=(arrOf st').map (·.2)) hoL
  refine wpAny_pure ⟨_,rfl,h _ ((arrOf st').map (·.2)).toList e (fun b o q=>?_) ?_ ?_⟩
  ·have hlt:=Heap.lt_size q
   have hlt':b<(s.heap.push (seqObj "list" vs.toArray 0)).objs.size:=by rw[Heap.size_push];exact Nat.lt_succ_of_lt hlt
   exact(sortedHeap_old (Nat.ne_of_lt hlt) hlt').trans (Heap.get?_push_of_some _ q)
  ·have q:((arrOf st').map (·.2)).toList.toArray=(arrOf st').map (·.2):=Array.toArray_toList
   rw[q];exact he
  ·have p1:(ss'.map fun x=>x.cps.toList).Perm ms:=by
    have:=b2.map (fun x:Str=>x.cps.toList)
    rwa [back_map]at this
   have e1:=sortT_uniq p1 (pw_of_sortedS b3)
   rw[←e1]
   exact strs_of b1
 ·exact Nat.le_trans (Nat.le_of_lt hlen) (by rw[sizeLine_eq];decide)
theorem sorted_set {S:Addr}{ls:List (List Nat)}{Q:Value→Shared→Prop}(hh:A.handled=none)(hS:TxSet prog w s.heap S ls (!byTxt w))(h64:ls.length<64)
  (h:∀(s':Shared) (a:Addr) (us:List Value) (e:Nat),s.heap.get? a=none→(∀b o,s.heap.get? b=some o→s'.heap.get? b=some o)→s'.gens=s.gens→s'.os=s.os→s'.heap.get? a=some { cls:=.type "list",data:=.seq us.toArray e }→Vals ((sortT ls).map tx) us→Q (.ref a) s'):
  wpAny (model prog w) A (call (.builtin "sorted") [.ref S]) Q E s:=by
 refine Calls.call_function_entry kind_sorted plain_sorted entry_sorted (args_sorted1 _) ?_
 unfold Builtin.«sorted»
 refine wpAny_bind (m:=checkCount "sorted" 1 1 _) (wpAny_pure ?_)
 refine wpAny_bind (collect_set (by first | exact hh | simpa using hh) hS (Nat.le_trans (Nat.le_of_lt h64) (by rw[sizeLine_eq];decide)) fun s' vs ms k1 hg ho hp hv=>?_)
 have hl:ms.length<64:=by rw[hp.length_eq];exact h64
 refine sort_tail hv hl fun h' us e k2 he r=>?_
 rw[sortT_congr hp]at r
 exact h _ _ us e (by
  cases q:s.heap.get? s'.heap.objs.size with
  | none=>rfl
  | some o=>exact absurd (Heap.lt_size (k1 _ _ q)) (Nat.lt_irrefl _)) (fun b o q=>k2 b o (k1 b o q)) hg ho he r
end
structure Fly (B:Heap)(l:List Env)(e:Addr)(C:Value)(d:Option Addr)(fl:Value)(h:Heap):Prop where
 st:B.StaysIn h
 ne:B.get? e=none
 fr:h.FunFrames B l
 tr:∃oe vs T oT ts,h.get? e=some oe∧oe.cls=C∧oe.dict=d∧oe.data=.fields vs∧vs[1]?=some (.ref T)∧B.get? T=none∧T≠e∧h.get? T=some oT∧oT.data=.fields ts∧ts[3]?=some fl
theorem dict_map (o:Obj)(f:Array Value→Array Value):(o.mapFields f).dict=o.dict:=by
 obtain⟨c,d,dt,sl⟩:=o
 cases dt<;>rfl
section
variable {M:Model}{A:Around}{E:Value→Shared→Prop}{s:Shared}{B:Heap}{env:Env}{outer:List Env}{L e:Addr}{C:Value}{d:Option Addr}{Q:Unit→Shared→Prop}
theorem note_core {oe:Obj}{vs:Array Value}{head:Value}{hadNext:Bool}(hfr:A.frames=some (env::outer))(hl:s.heap.FunFrames B (env::outer))(hf:env.frame=some L)(he:s.heap.get? e=some oe)(hkb:B.StaysIn s.heap)(hen:B.get? e=none)
  (hc:oe.cls=C) (hdd:oe.dict=d) (hd:oe.data=.fields vs) (hsz:1<vs.size) (h:∀h',Fly B (env::outer) e C d (rawInt L) h'→s.heap.UpToSlots h'→Q () { s with heap:=h' }):
  wpAny M A (do let a ←frameOf env;let pl ←entryPlaceOf L hadNext;let b ←EntryCells.newEntry head a .none (rawInt L) .none pl;setField (.ref e) 1 b) Q E s:=by
 have hene:e∉(env::outer).filterMap (·.frame):=fun hm=>by
  obtain⟨_,o,ho,hnf⟩:=hl.mem hm
  rw[he]at ho
  cases ho
  exact hnf vs hd
 refine wpAny_bind (wpAny_frameOf_fun hfr hl hf fun h1 hs=>wpAny_bind (wpAny_entryPlaceOf fun pl hpl=>?_))
 unfold EntryCells.newEntry newFields
 refine wpAny_bind (wpAny_newObj_type ?_ (hpl.sizeOk5 _ _ _ _ _))
 have e1:h1.get? e=some oe:=(hs.2.1 e hene).trans he
 have k1:B.StaysIn h1:=fun b o hbo=>(hs.2.1 b fun hm=>by rw[(hl.mem hm).1]at hbo;cases hbo).trans (hkb b o hbo)
 generalize eT:({ cls:=.type "traceback",dict:=none,data:=.fields ([head,.ref L,.none,rawInt L,.none]++(if pl.isEmpty then List.replicate 6 Value.none else pl)).toArray }:Obj)=oT
 have e2:(h1.push oT).get? e=some oe:=Heap.get?_push_of_some _ e1
 refine wpAny_setField e2 hd hsz ?_
 have nT:h1.objs.size≠e:=Nat.ne_of_gt (Heap.lt_size e1)
 have d3:=Obj.data_mapFields hd (·.setIfInBounds 1 (Value.ref h1.objs.size))
 have e3:=Heap.get?_update_self (Obj.mapFields (·.setIfInBounds 1 (Value.ref h1.objs.size))) e2 (Obj.isFreed_of_fields d3)
 have t3:((h1.push oT).update e (Obj.mapFields (·.setIfInBounds 1 (Value.ref h1.objs.size)))).get? h1.objs.size=some oT:=by
  rw[Heap.get?_update_other _ _ (Ne.symm nT)]
  refine Heap.get?_push_size _ ?_
  rw[←eT];rfl
 have keep:∀b o,b≠e→h1.get? b=some o→((h1.push oT).update e (Obj.mapFields (·.setIfInBounds 1 (Value.ref h1.objs.size)))).get? b=some o:=fun b o hb q=>by
  rw[Heap.get?_update_other _ _ (Ne.symm hb)]
  exact Heap.get?_push_of_some _ q
 have nrec:∀b o,s.heap.get? b=some o→(∀vs,o.data≠.fields vs)→b≠e:=fun b o q n z=>by
  rw[z,he]at q
  cases q
  exact n vs hd
 have dT:oT.data=.fields ([head,.ref L,.none,rawInt L,.none]++(if pl.isEmpty then List.replicate 6 Value.none else pl)).toArray:=by rw[←eT]
 refine h _ ⟨fun b o q=>keep b o (fun z=>by rw[z,hen]at q;cases q) (k1 b o q),hen,hl.of_keeps fun b o q n=>?_,_,_,h1.objs.size,oT,_,e3,(Obj.cls_mapFields _ _).trans hc,(dict_map _ _).trans hdd,d3,?_,k1.fresh,nT,t3,dT,?_⟩ fun b o q n=>?_
 ·obtain⟨sl,q2⟩:=hs.2.2 b o q
  exact⟨_,keep b _ (nrec b o q n) q2,rfl⟩
 ·simp[hsz]
 ·simp
 ·obtain⟨sl,q2⟩:=hs.2.2 b o q
  exact⟨sl,keep b _ (nrec b o q n) q2⟩
theorem note_first {oe:Obj}{vs:Array Value}(hfr:A.frames=some (env::outer))(hl:s.heap.FunFrames B (env::outer))(hf:env.frame=some L)(he:s.heap.get? e=some oe)(hkb:B.StaysIn s.heap)(hen:B.get? e=none)
  (hc:oe.cls=C) (hdd:oe.dict=d) (hd:oe.data=.fields vs) (h1:vs[1]?=some .none) (h:∀h',Fly B (env::outer) e C d (rawInt L) h'→s.heap.UpToSlots h'→Q () { s with heap:=h' }):wpAny M A (noteFrame (.ref e) env) Q E s:=by
 unfold noteFrame
 simp only[hf]
 refine wpAny_bind (wpAny_field he hd h1 ?_)
 rw[if_neg (by decide)]
 exact note_core hfr hl hf he hkb hen hc hdd hd (Array.getElem?_eq_some_iff.mp h1).1 h
theorem note_next (hfr:A.frames=some (env::outer))(hf:env.frame=some L)(x:Fly B (env::outer) e C d .none s.heap)(h:∀h',Fly B (env::outer) e C d (rawInt L) h'→s.heap.UpToSlots h'→Q () { s with heap:=h' }):
  wpAny M A (noteFrame (.ref e) env) Q E s:=by
 obtain⟨hkb,hen,hl,oe,vs,T,oT,ts,he,hc,hdd,hd,h1,hnT,hTe,hT,hdT,h3⟩:=x
 unfold noteFrame
 simp only[hf]
 refine wpAny_bind (wpAny_field he hd h1 ?_)
 rw[if_pos (show (Value.ref T != Value.none)=true from by simp)]
 refine wpAny_bind (wpAny_field hT hdT h3 ?_)
 rw[if_neg (show ¬((Value.none == rawInt L)=true) from by simp[rawInt])]
 refine wpAny_bind (wpAny_setField hT hdT (Array.getElem?_eq_some_iff.mp h3).1 ?_)
 have oth:∀b,b≠T→(s.heap.update T (Obj.mapFields (·.setIfInBounds 3 Value.none))).get? b=s.heap.get? b:=fun b hb=>Heap.get?_update_other _ _ (Ne.symm hb)
 have nrec:∀b o,s.heap.get? b=some o→(∀vs,o.data≠.fields vs)→b≠T:=fun b o q n z=>by
  rw[z,hT]at q
  cases q
  exact n ts hdT
 refine note_core (s:={ s with heap:=s.heap.update T (Obj.mapFields (·.setIfInBounds 3 Value.none)) }) hfr (hl.of_keeps fun b o q n=>⟨o,(oth b (nrec b o q n)).trans q,rfl⟩) hf ((oth e (Ne.symm hTe)).trans he)
  (fun b o q=>(oth b fun z=>by rw[z,hnT]at q;cases q).trans (hkb b o q)) hen hc hdd hd (Array.getElem?_eq_some_iff.mp h1).1 fun h' y u=>h h' y fun b o q n=>u b o ((oth b (nrec b o q n)).trans q) n
theorem flight_none {l:List Env}{fl:Value}(x:Fly B l e C d fl s.heap)(h:∀h',Fly B l e C d .none h'→s.heap.UpToSlots h'→Q () { s with heap:=h' }):wpAny M A (setFlight (.ref e) none) Q E s:=by
 obtain⟨hkb,hen,hl,oe,vs,T,oT,ts,he,hc,hdd,hd,h1,hnT,hTe,hT,hdT,h3⟩:=x
 have hz:3<ts.size:=(Array.getElem?_eq_some_iff.mp h3).1
 have oth:∀b,b≠T→(s.heap.update T (Obj.mapFields (·.setIfInBounds 3 ((none:Option Addr).elim Value.none fun f=>rawInt f)))).get? b=s.heap.get? b:=fun b hb=>Heap.get?_update_other _ _ (Ne.symm hb)
 have nrec:∀b o,s.heap.get? b=some o→(∀vs,o.data≠.fields vs)→b≠T:=fun b o q n z=>by
  rw[z,hT]at q
  cases q
  exact n ts hdT
 unfold setFlight
 refine wpAny_bind (wpAny_field he hd h1 ?_)
 rw[if_pos (show (Value.ref T != Value.none)=true from by simp)]
 refine wpAny_setField hT hdT hz (h _ ⟨fun b o q=>(oth b fun z=>by rw[z,hnT]at q;cases q).trans (hkb b o q),hen,hl.of_keeps fun b o q n=>⟨o,(oth b (nrec b o q n)).trans q,rfl⟩,oe,vs,T,_,_,(oth e (Ne.symm hTe)).trans he,hc,hdd,hd,h1,hnT,hTe,
  Heap.get?_update_self _ hT (Obj.isFreed_of_fields (Obj.data_mapFields hdT _)),Obj.data_mapFields hdT _,by simp[hz]⟩ fun b o q n=>⟨o.slots,(oth b (nrec b o q n)).trans q⟩)
theorem Fly.pop {h:Heap}{fl:Value}(x:Fly B (env::outer) e C d fl h):Fly B outer e C d fl h:=⟨x.st,x.ne,x.fr.2.2,x.tr⟩
theorem leave_first {oe:Obj}{vs:Array Value}(hfr:A.frames=some (env::outer))(hl:s.heap.FunFrames B (env::outer))(hf:env.frame=some L)(he:s.heap.get? e=some oe)(hkb:B.StaysIn s.heap)(hen:B.get? e=none)
  (hc:oe.cls=C) (hdd:oe.dict=d) (hd:oe.data=.fields vs) (h1:vs[1]?=some .none) (h:∀h',Fly B outer e C d .none h'→s.heap.UpToSlots h'→Q () { s with heap:=h' }):wpAny M A (leaving env (.ref e)) Q E s:=by
 unfold leaving
 refine wpAny_bind (note_first hfr hl hf he hkb hen hc hdd hd h1 fun h1 x1 u1=>flight_none (s:={ s with heap:=h1 }) x1 fun h2 x2 u2=>h h2 x2.pop (u1.trans u2))
theorem leave_next (hfr:A.frames=some (env::outer))(hf:env.frame=some L)(x:Fly B (env::outer) e C d .none s.heap)(h:∀h',Fly B outer e C d .none h'→s.heap.UpToSlots h'→Q () { s with heap:=h' }):wpAny M A (leaving env (.ref e)) Q E s:=by
 unfold leaving
 refine wpAny_bind (note_next hfr hf x fun h1 x1 u1=>flight_none (s:={ s with heap:=h1 }) x1 fun h2 x2 u2=>h h2 x2.pop (u1.trans u2))
end
end L2
namespace L2
open PySem PySem.Spec PyProof.Rows
open PySem.W (Frag findIn typeIn mroIn clsIn InstAt Looks)
def xr (a C:Addr)(d:Option Addr):HO:=.ext fun h=>∃(o:Obj) (vs:Array Value),h.get? a=some o∧o.cls=.ref C∧o.dict=d∧o.data=.fields vs
theorem xr_ok {P:Program}{w:World}{H:Hp}{h:Heap}{e C:Addr}{d:Option Addr}{o:Obj}{vs:Array Value}(h1:h.get? e=some o)(h2:o.cls=.ref C)(h3:o.dict=d)(h4:o.data=.fields vs):ObjOk P w H h e (xr e C d):=
 ⟨⟨o,vs,h1,h2,h3,h4⟩,⟨o,h1⟩,fun g1 g2 ⟨o',vs',q1,q⟩ k=>⟨o',vs',k _ q1,q⟩⟩
inductive XAny (H:Hp) (e C:Addr):List (Str×V)→Prop where
 | un {fs:List (Str×V)}:XAt H e C fs→XAny H e C fs
 | bare:H e=some (xr e C none)→XAny H e C []
 | full {d:Addr} {fs:List (Str×V)}:H e=some (xr e C (some d))→H d=some (xdO d fs)→d≠e→XAny H e C fs
section
variable {M:Model}{A:Around}{E:Value→Shared→Prop}{s:Shared}{env:Env}
theorem raise_obj {x:Sem Value}{Q:Flow→Shared→Prop}(hh:A.handled=none)
  (h:wpAny M A x (fun v s₁=>∃(e t:Addr) (od:Option Addr) (sl:Array (Option Value)) (C:Addr) (nm q:Str) (N:Addr) (bs bm:List Value) (hdct:Bool) (sn:List Str) (sub:List Value) (ab:Bool) (col:Option Bool) (dd:Option Addr) (k0 k1 k2 k3 k5:Option Value) (newId:String),v=.ref e∧bm.contains (.type "BaseException")=true ∧
   s₁.heap.get? C=some (excClassObj nm q C N bs bm hdct sn sub ab col dd k0 k1 k2 k3 k5 newId)∧s₁.heap.get? e=some { cls:=.ref C,dict:=od,data:=.fields #[.ref t,.none,.none,.none,.bool false,.none],slots:=sl }∧E (.ref e) s₁) E s):wpAny M A (raiseStmt env (some x) none) Q E s:=by
 unfold raiseStmt
 refine wpAny_bind (wpAny_mono h (fun v s₁ h₁=>?_) fun _ _ x=>x)
 obtain⟨e,t,od,sl,C,nm,q,N,bs,bm,hdct,sn,sub,ab,col,dd,k0,k1,k2,k3,k5,newId,rfl,hbase,hC,he,hE⟩:=h₁
 have hcB:(Value.ref C::bm).contains (.type "BaseException")=true:=by rw[List.contains_cons,hbase,Bool.or_true]
 obtain⟨hp,g,d,tk,os⟩:=s₁
 repeat (first | with_reducible refine wpAny_loadPart_at he ?_ | with_reducible refine wpAny_loadPart_at hC ?_ | (with_reducible refine wpAny_isSubtype_exc hC ?_;rw[hcB]) | wp_step)
 exact wpAny_raiseNew_none hh hE
end
def CXr (P:Program)(w:World):CXT:=fun outer H s E ev s'=>∃(e C:Addr) (d:Option Addr) (H':Hp) (h1 B:Heap),ev=.ref e∧s'.os=s.os∧AllBare s'.gens∧Un (frs outer) [] H H' s.heap h1∧HOk P w H' h1∧H' e=some (xr e C d) ∧
 (∀b o,h1.get? b=some o→b≠e→((∃u,H' b=some u)∨((∃o',s.heap.get? b=some o')∧b∉frs outer))→B.get? b=some o)∧Fly B outer e (.ref C) d .none s'.heap∧h1.UpToSlots s'.heap∧E (.ref C) (some e) H'
def Raises (X:Cx)(Ex:XK):Prop:=∀(pins:List (Addr×Obj)) (σ:St) (H:Hp) (s:Shared) (e C:Addr) (d:Option Addr),Inv X pins σ H s→H e=some (xo e C d)→Ex (.ref C) (some e) (upd H e (xr e C d))→X.xe (.ref e) s
theorem Inv.raised {X:Cx}{pins:List (Addr×Obj)}{σ:St}{H:Hp}{s:Shared}{e C:Addr}{d:Option Addr}(I:Inv X pins σ H s)(h:H e=some (xo e C d)):Inv X pins σ (upd H e (xr e C d)) s:=by
 obtain⟨o,t,h1,h2,h3,h4⟩:=xo_obj I h
 exact I.write (x:=e) (e:=e) (o:=xr e C d) (h':=s.heap) (t':=s.toks) (by rw[h];exact trivial) (.inl rfl) (fun b u _ q=>q) ⟨o,h1⟩ (xr_ok h1 h2 h3 h4)
theorem hide_of {h:Heap}{as:List Addr}{b:Addr}{o:Obj}(e:(PySem.W.hideAll h as).get? b=some o):h.get? b=some o:=PySem.W.of_hideAll _ e
theorem cx_raises {P:Program}{w:World}{K:Frag}{mg:Str→Option Value}{base:Heap}{N:List Str}{qual:Str}{scope:Scope}{f:Addr}{cd:Value}{A:Around}{outer:List Env}{s0:Shared}{H0:Hp}{E:XK}:
  Raises (cxOf (CXr P w) P w K mg base N qual scope f cd A outer s0 H0 E) E:=by
 intro pins σ H s e C d I he hE
 obtain⟨o,t,h1,h2,h3,h4⟩:=xo_obj I he
 have J:=I.raised he
 generalize hX:cxOf (CXr P w) P w K mg base N qual scope f cd A outer s0 H0 E=X at I J ⊢
 have eA:X.A=A.deeper (envOfC qual scope s0.heap.objs.size f cd):=by rw[←hX];rfl
 have eS:X.stack=envOfC qual scope s0.heap.objs.size f cd::outer:=by rw[←hX];rfl
 have eF:X.fs=frs outer:=by rw[←hX];rfl
 have e0:X.s₀=s0:=by rw[←hX];rfl
 have eH:X.H₀=H0:=by rw[←hX];rfl
 have eX:X.ex=[]:=by rw[←hX];rfl
 have eL:X.env=envOfC qual scope s0.heap.objs.size f cd:=by rw[←hX];rfl
 have ePr:X.prog=P:=by rw[←hX];rfl
 have eW:X.w=w:=by rw[←hX];rfl
 have hxe:∀ev s',wpAny (model P w) (A.deeper (envOfC qual scope s0.heap.objs.size f cd)) (leaving (envOfC qual scope s0.heap.objs.size f cd) ev) (fun _ s''=>CXr P w outer H0 s0 E ev s'') (fun e' s''=>CXr P w outer H0 s0 E e' s'') s'→X.xe ev s':=by
  intro ev s' z;rw[←hX];exact z
 refine hxe _ _ ?_
 have hfr:(A.deeper (envOfC qual scope s0.heap.objs.size f cd)).frames=some (envOfC qual scope s0.heap.objs.size f cd::outer):=by rw[←eA,←eS];exact I.ok.frames
 have stk:s.heap.FunFrames X.base X.stack:=I.stack
 have hin:∀env∈X.stack,∀a,env.frame=some a→a∈frs X.stack++[e]:=fun env henv a ha=>List.mem_append_left _ (List.mem_filterMap.mpr ⟨env,henv,ha⟩)
 have ff:=PySem.W.funFrames_hide (as:=frs X.stack++[e]) stk hin
 rw[eS]at ff
 have stays:(PySem.W.hideAll s.heap (frs (envOfC qual scope s0.heap.objs.size f cd::outer)++[e])).StaysIn s.heap:=fun b o q=>hide_of q
 refine leave_first (B:=PySem.W.hideAll s.heap (frs (envOfC qual scope s0.heap.objs.size f cd::outer)++[e])) (L:=s0.heap.objs.size) hfr ff rfl h1 stays (PySem.W.hideAll_none _ (by simp)) h2 h3 h4 (by simp) fun h' fl up=>?_
 have os:s.os=s0.os:=by rw[←e0];exact I.os
 have un:Un (frs outer) [] H0 (upd H e (xr e C d)) s0.heap s.heap:=by
  have:=J.base
  rwa [eF,eX,eH,e0]at this
 have ok:HOk P w (upd H e (xr e C d)) s.heap:=by
  have:=J.hok
  rwa [ePr,eW]at this
 refine⟨e,C,d,upd H e (xr e C d),s.heap,_,rfl,os,I.bare,un,ok,upd_same,fun b o hb hne hc=>?_,fl,up,hE⟩
 refine PySem.W.hideAll_get _ hb fun z=>?_
 rcases List.mem_append.mp z with z | z
 ·have z':b∈frs X.stack:=by rw[eS];exact z
  rcases hc with⟨u,hu⟩|⟨⟨o',ho'⟩,hn⟩
  ·rw[J.stkFree b z']at hu;cases hu
  ·rcases List.mem_cons.mp (I.stkSub b z') with q | q
   ·rw[q,eL]at ho'
    exact absurd (Heap.lt_size ho') (Nat.lt_irrefl _)
   ·rw[eF]at q;exact hn q
 ·exact hne (by simpa using z)
def tRaise (K:Frag)(Ex:XK)(te:TE):TS:=fun _ σ H=>te σ H fun v H1=>∃e C d,v=.ref e∧H1 e=some (xo e C d)∧Xm K C∧Ex (.ref C) (some e) (upd H1 e (xr e C d))
theorem ps_raise {X:Cx}{Ex:XK}{e:Expr}{te:TE}{pos:Pos}(hR:Raises X Ex)(hc:X.calm=true)(he:PE X e te):PS X (.Raise (some e) none pos) (tRaise X.K Ex te):=by
 intro pins s σ H D I h
 rw[arm_exec_Raise]
 show wpAny _ X.A (do standAt pos;raiseStmt X.env (some (do let v ←eval e X.env;standAt pos;pure v)) none) _ _ s
 refine wpAny_bind (wpAny_standAt ?_)
 refine raise_obj (I.ok.hd hc) (wpAny_bind (thn (he pins s σ H _ I h) fun v s1 ⟨x,H1,I1,r1,a,C,d,ex,hx,m,q⟩=>wpAny_bind (wpAny_standAt (wpAny_pure ?_))))
 subst ex
 obtain rfl:v=Value.ref a:=r1
 obtain⟨o,t,h1,h2,h3,h4⟩:=xo_obj I1 hx
 obtain⟨nm,q',N,bs,bm,hdct,sn,sub,ab,col,dd,k0,k1,k2,k3,k5,hl,hxm⟩:=m.parts
 obtain⟨oc,odi,oda,osl⟩:=o
 dsimp only at h2 h3 h4
 subst h2 h3 h4
 have hb:(Value.ref C::bm).contains (.type "BaseException")=true:=xmro_has (by decide +kernel) hxm
 rw[List.contains_cons]at hb
 refine⟨a,t,_,_,C,nm,q',N,bs,bm,hdct,sn,sub,ab,col,dd,k0,k1,k2,k3,k5,_,rfl,?_,I1.kIn _ _ hl,h1,hR pins σ H1 s1 a C _ I1 hx q⟩
 have z:(Value.type "BaseException" == Value.ref C)=false:=rfl
 rw[z,Bool.false_or]at hb
 exact hb
section
variable {P:Program}{w:World}{K:Frag}{mg:Str→Option Value}{base:Heap}
theorem Fun.okX {x qual:Str}{st:Stmt}{f:Addr}{fd:FuncData}{N ps:List Str}{k:Nat}{sp:Sp}(F:Fun K x qual st f fd)(S:FnScope N ps (defScope st))(len:∀vs H Q E,sp vs H Q E→vs.length=ps.length)
  (hbody:∀(cdv:Value) (A:Around) (outer:List Env) (s:Shared) (H:Hp) (vs:List V) (Q:VK) (E:XK),Room k (A.deeper (envOfC qual (defScope st) s.heap.objs.size f cdv))→sp vs H Q E →
   ∃t,PSs (cxOf (CXr P w) P w K mg base N qual (defScope st) f cdv A outer s H E) (defBody st) t∧t { nx:=fun _ H'=>Q .non H',rt:=Q } (start N vs) H):FnOk P w K mg base (CXr P w) (k+1) f fd ps sp:=by
 obtain⟨oc,od,kV,doc,pm,an,cdv,ct,osl,rfl,lk,hcd⟩:=F.ex
 exact fn_of lk hcd S len fun A outer s H vs Q E hr hsp=>hbody cdv A outer s H vs Q E hr hsp
end
abbrev TX:=St→Hp→VK→XK→Prop
def PEx (X:Cx)(e:Expr)(t:TX):Prop:=∀(pins:List (Addr×Obj)) (s:Shared) (σ:St) (H:Hp) (Q:VK) (E:XK),Inv X pins σ H s→t σ H Q E →
 wpAny (model X.prog X.w) X.A (eval e X.env) (EP X pins σ Q) (fun ev s'=>∃H2 s2,Inv X pins σ H2 s2∧CXr X.prog X.w X.stack H2 s2 E ev s') s
abbrev TSx:=Ends→(St→XK)→St→Hp→Prop
def XH (X:Cx)(pins:List (Addr×Obj))(Ex:St→XK)(ev:Value)(s':Shared):Prop:=∃σ' H2 s2,Inv X pins σ' H2 s2∧CXr X.prog X.w X.stack H2 s2 (Ex σ') ev s'
def PSx (X:Cx)(st:Stmt)(t:TSx):Prop:=∀(pins:List (Addr×Obj)) (s:Shared) (σ:St) (H:Hp) (D:Ends) (Ex:St→XK),Inv X pins σ H s→t D Ex σ H→wpAny (model X.prog X.w) X.A (exec st X.env) (SP X pins D) (XH X pins Ex) s
def PSsx (X:Cx)(st:List Stmt)(t:TSx):Prop:=∀(pins:List (Addr×Obj)) (s:Shared) (σ:St) (H:Hp) (D:Ends) (Ex:St→XK),Inv X pins σ H s→t D Ex σ H→wpAny (model X.prog X.w) X.A (execs st X.env) (SP X pins D) (XH X pins Ex) s
section
variable {X:Cx}{CX:CXT}{k:Nat}{f C:Addr}{fd:FuncData}{ps:List Str}{sp:Sp}{dvs:List V}{ds:List Value}{x m:Str}{p pos apos:Pos}{e o:Expr}{es:List Expr}{ta:TE}{t:TA}
theorem run_fnx {pins:List (Addr×Obj)}{σ:St}{H:Hp}{s:Shared}{Q:VK}{E:XK}{us:List Value}{vs:List V}(F:FnOk X.prog X.w X.K X.mg X.base (CXr X.prog X.w) k f fd ps sp)(hr:Room k X.A)(hb:Binds X.K fd ps ds)(hd:Vals dvs ds)
  (I:Inv X pins σ H s) (r:Vals vs us) (h:sp (vs++dvs) H Q E):wpAny (model X.prog X.w) X.A (call (.ref f) us) (EP X pins σ Q) (fun ev s'=>∃H2 s2,Inv X pins σ H2 s2∧CXr X.prog X.w X.stack H2 s2 E ev s') s:=by
 have r2:Vals (vs++dvs) (us++ds):=r.append hd
 have hl:(us++ds).length=ps.length:=by rw[←r2.length];exact F.len _ _ _ _ h
 refine wpAny_call (codeAny_mono (F.run X.A X.stack s H ⟨us,[]⟩ (us++ds) (vs++dvs) Q E hr I.env0 (hb s us I.kIn hl) r2 h) fun r s' hq=>?_)
 cases r with
 | error e=>exact⟨H,s,I,hq⟩
 | ok fl=>
  cases fl with
  | ret u=>exact I.after hq
  | next=>exact False.elim hq
  | brk=>exact False.elim hq
  | cont=>exact False.elim hq
def tCallx (sp:Sp)(dvs:List V)(t:TA):TX:=fun σ H Q E=>t σ H fun vs H1=>sp (vs++dvs) H1 Q E
theorem pex_call (F:FnOk X.prog X.w X.K X.mg X.base (CXr X.prog X.w) k f fd ps sp)(hr:Room k X.A)(hg:Gl X x)(hm:X.mg x=some (.ref f))(hk:PySem.W.keepIn X.K (.ref f)=true)(hb:Binds X.K fd ps ds)(hd:Vals dvs ds)
  (ha:PA X.nox (e::es) t) (hdb:(x == ("__debug__":Str))=false:=by decide) (he:starEach (e::es) X.env=(false,eval e X.env)::starEach es X.env:=by rfl) (hpl:(backTo pos (starEach es X.env)).any (·.1)=false:=by rfl):
  PEx X (.Call (.Name x p) (e::es) [] pos) (tCallx sp dvs t):=by
 intro pins s σ H Q E I h
 refine wpAny_Call_Name_kw (ld_glob I hg hm ?_ hdb)
 refine PySem.W.callWith_K (h₀:=X.base) I.ok.mod.kin hk (wpAny_mono (ha pos pins s σ H _ (I.wish _) h) (fun us s1 ⟨vs,H1,I1,r,q⟩=>⟨I1.kIn,?_⟩) fun _ _ z=>False.elim z) he hpl
 exact run_fnx F hr hb hd I1.unwish r q
def sSetx (i:Nat)(te:TX):TSx:=fun D Ex σ H=>te σ H (fun y H1=>D.nx (σ.set i (some y)) H1) (Ex σ)
theorem psx_set {i:Nat}{te:TX}{pos':Pos}(hN:X.N.Nodup)(hi:X.N[i]?=some x)(hx:Loc X.env.scope x)(he:PEx X e te)(hs:swapsWith e (some (.Name x pos')) pos.line X.env=pure false:=by rfl)(hf:X.fn x=true∨X.env.scope.names.lookup x=some .local:=by first | exact .inl rfl | exact .inr rfl | assumption):
  PSx X (.Assign [.Name x pos'] e pos) (sSetx i te):=by
 intro pins s σ H D Ex I h
 refine wpAny_Assign_Name (wpAny_mono (he pins s σ H _ _ I h) (fun v s1 ⟨y,H1,I1,r1,q1⟩=>?_) fun ev s' ⟨H2,s2,I2,q⟩=>⟨σ,H2,s2,I2,q⟩) hs
 exact store_ok I1 hN hi hx r1 (fun s2 I2=>⟨_,H1,I2,q1⟩) hf
def sExprx (te:TX):TSx:=fun D Ex σ H=>te σ H (fun _ H1=>D.nx σ H1) (Ex σ)
theorem psx_expr {te:TX}(he:PEx X e te)(hs:swapsWith e none pos.line X.env=pure false:=by rfl):PSx X (.Expr e pos) (sExprx te):=by
 intro pins s σ H D Ex I h
 exact wpAny_Expr_any (wpAny_mono (he pins s σ H _ _ I h) (fun v s1 ⟨y,H1,I1,r1,q1⟩=>⟨σ,H1,I1,q1⟩) fun ev s' ⟨H2,s2,I2,q⟩=>⟨σ,H2,s2,I2,q⟩) I.quiet hs
theorem pssx_one {st:Stmt}{t:TSx}(h1:PSx X st t):PSsx X [st] t:=by
 intro pins s σ H D Ex I h
 refine wpAny_execs_cons (thn (h1 pins s σ H D Ex I h) fun f s1 q=>?_)
 cases f with
 | next=>exact wpAny_execs_nil q
 | ret v=>exact q
 | brk=>exact q
 | cont=>exact q
def sIfx (c:TT)(t u:TSx):TSx:=fun D Ex σ H=>c σ H fun b H1=>if b=true then t D Ex σ H1 else u D Ex σ H1
end
section
variable {X:Cx}{pins:List (Addr×Obj)}{σ:St}{H H':Hp}{s s1:Shared}{e C:Addr}{d:Option Addr}{h1 h5 B:Heap}
theorem caught_inv (I:Inv X pins σ H s)(os:s1.os=s.os)(bare:AllBare s1.gens)(un:Un (frs X.stack) [] H H' s.heap h1)(ok:HOk X.prog X.w H' h1)(he:H' e=some (xr e C d))
  (kept:∀b o,h1.get? b=some o→b≠e→((∃u,H' b=some u)∨((∃o',s.heap.get? b=some o')∧b∉frs X.stack))→B.get? b=some o) (fl:Fly B X.stack e (.ref C) d .none h5) (up:h1.UpToSlots h5):
  Inv X pins σ H' { s1 with heap:=h5 }:=by
 have ne:∀b o,s.heap.get? b=some o→H b=none→b≠e:=fun b o q n z=>by
  have:=un.free b o q n (by simp)
  rw[z,he]at this
  cases this
 have keep:∀b o,s.heap.get? b=some o→H b=none→b∉frs X.stack→h5.get? b=some o:=fun b o q n nf=>
  fl.st b o (kept b o (un.keep b o q n nf (by simp)) (ne b o q n) (.inr ⟨⟨o,q⟩,nf⟩))
 have slot:∀b o,s.heap.get? b=some o→H b=none→b∈frs X.stack→∃sl,h5.get? b=some { o with slots:=sl }:=fun b o q n hf=>by
  obtain⟨sl,q1⟩:=un.slot b o q n hf (by simp)
  obtain⟨_,o',ho',hnf⟩:=I.stack.mem hf
  rw[q]at ho'
  cases ho'
  obtain⟨sl2,q2⟩:=up b _ q1 hnf
  exact⟨sl2,q2⟩
 have trk:∀c u,(∃v,H' c=some v)→h1.get? c=some u→c≠e→h5.get? c=some u:=fun c u hv q n=>fl.st c u (kept c u q n (.inl hv))
 refine I.call' (s':={ s1 with heap:=h5 }) (ch:=[]) os ⟨fun b o q n nf _=>keep b o q n nf,fun b o q n hf _=>slot b o q n hf,fun b o q n _=>un.free b o q n (by simp),fun b o q _=>?_,un.tups,un.frzs,un.tbls⟩ (fun b ob hb=>?_) bare (fun b hb=>by cases hb)
 ·by_cases hbe:b=e
  ·obtain⟨oe,vs,T,oT,ts,h1,_⟩:=fl.tr
   exact⟨oe,by rw[hbe];exact h1⟩
  ·cases hH:H b with
   | none=>
    by_cases hf:b∈frs X.stack
    ·obtain⟨sl,q2⟩:=slot b o q hH hf
     exact⟨_,q2⟩
    ·exact⟨o,keep b o q hH hf⟩
   | some u=>
    obtain⟨o',q1⟩:=un.there b o q (by simp)
    by_cases hf:b∈frs X.stack
    ·rw[I.stkFree b hf]at hH;cases hH
    ·exact⟨o',fl.st b o' (kept b o' q1 hbe (.inr ⟨⟨o,q⟩,hf⟩))⟩
 ·by_cases hbe:b=e
  ·subst hbe
   rw[he]at hb
   cases hb
   obtain⟨oe,vs,T,oT,ts,g1,g2,g3,g4,_⟩:=fl.tr
   exact xr_ok g1 g2 g3 g4
  ·refine(ok b ob hb).stay (fun c u hc q=>trk c u ?_ q ?_) (fun _ q=>q) fun _ _ q=>q
   ·rcases hc with z | z
    ·exact⟨ob,z▸hb⟩
    ·exact⟨_,z⟩
   ·rintro rfl
    rcases hc with z | z
    ·exact hbe z.symm
    ·rw[he]at z;cases z
end
def sux (X:Cx)(e:Addr):Cx:={ X with A:=X.A.mark (some (.ref e)),calm:=false,xe:=fun _ _=>False }
section
variable {X:Cx}{pins:List (Addr×Obj)}{σ:St}{H:Hp}{s:Shared}{e:Addr}
theorem Inv.sux (I:Inv X pins σ H s)(e:Addr):Inv (L2.sux X e) pins σ H s:=
 ⟨⟨I.ok.mod,I.ok.kind,I.ok.glob,I.ok.blt,I.ok.above,I.ok.inj,I.ok.has,I.ok.cab,(fun z=>by cases z),I.ok.frames,I.ok.stk,I.ok.exf,I.ok.bs,I.ok.bsz,I.ok.noex,I.ok.exfs,I.ok.funs,I.ok.frf⟩,I.os,I.bare,I.base,I.loc,I.cell,I.free,I.freeC,I.pin,I.hok,I.len⟩
theorem Inv.unsux (hh:X.calm=true→X.A.handled=none)(I:Inv (L2.sux X e) pins σ H s):Inv X pins σ H s:=
 ⟨⟨I.ok.mod,I.ok.kind,I.ok.glob,I.ok.blt,I.ok.above,I.ok.inj,I.ok.has,I.ok.cab,hh,I.ok.frames,I.ok.stk,I.ok.exf,I.ok.bs,I.ok.bsz,I.ok.noex,I.ok.exfs,I.ok.funs,I.ok.frf⟩,I.os,I.bare,I.base,I.loc,I.cell,I.free,I.freeC,I.pin,I.hok,I.len⟩
theorem Inv.unbind {i:Nat}{x:Str}{v:Option Value}{m:Str→Option Value}{h':Heap}{t':Nat}(I:Inv X pins σ H s)(hN:X.N.Nodup)(hi:X.N[i]?=some x)(hm:∀(i:Nat) (x:Str) (v:V),X.N[i]?=some x→σ[i]?=some (some v)→Vis X.env.scope x→∃u,RelV v u∧Look X.env s.heap m x u)
  (hn':h'.Ns X.env.locals (fun y=>if y=x then v else m y)) (hs:Heap.SameBut X.env.locals s.heap h'):Inv X pins (σ.set i none) H { s with heap:=h',toks:=t' }:=by
 obtain⟨m0,hn,_⟩:=id I.loc
 obtain⟨oL,_,_,hoL,_⟩:=id hn
 have ab:∀b o,X.s₀.heap.get? b=some o→b≠X.env.locals:=fun b o e=>Nat.ne_of_lt (Nat.lt_of_lt_of_le (Heap.lt_size e) I.ok.above)
 refine⟨I.ok,I.os,I.bare,⟨fun b o e n hb hx=>(hs.2 b (ab b o e)).trans (I.base.keep b o e n hb hx),fun b o e n hb hx=>?_,I.base.free,fun b o e hx=>?_,I.base.tups,I.base.frzs,I.base.tbls⟩,⟨_,hn',fun j y v' e1 e2 e3=>?_⟩,fun y c e=>?_,I.free,I.freeC,fun p hp=>?_,fun b ob e=>?_,by simpa using I.len⟩
 ·obtain⟨sl,e1⟩:=I.base.slot b o e n hb hx
  exact⟨sl,(hs.2 b (ab b o e)).trans e1⟩
 ·obtain⟨o',e1⟩:=I.base.there b o e hx
  exact⟨o',(hs.2 b (ab b o e)).trans e1⟩
 ·have hj:j≠i:=by
   rintro rfl
   by_cases hl:j<σ.length
   ·rw[List.getElem?_set_self hl]at e2;cases e2
   ·rw[List.set_eq_of_length_le (Nat.le_of_not_lt hl),List.getElem?_eq_none (Nat.le_of_not_lt hl)]at e2;cases e2
  rw[List.getElem?_set_ne (Ne.symm hj)]at e2
  obtain⟨u',r',q⟩:=hm j y v' e1 e2 e3
  refine⟨u',r',?_⟩
  rcases q with⟨k,e⟩|⟨k,c,e,z⟩
  ·refine .inl ⟨k,?_⟩
   have:y≠x:=fun e=>hj (nodup_ix hN e1 (e▸hi))
   simp[this,e]
  ·exact .inr ⟨k,c,e,z.sameBut hs (I.cne y c e)⟩
 ·obtain⟨w',z⟩:=I.cell y c e
  exact⟨w',z.sameBut hs (I.cne y c e)⟩
 ·obtain⟨e,n,ne,nf,d⟩:=I.pin p hp
  exact⟨(hs.2 p.1 ne).trans e,n,ne,nf,d⟩
 ·refine(I.hok b ob e).stay (fun c w' hc q=>(hs.2 c ?_).trans q) (fun _ q=>q) fun _ _ q=>q
  rintro rfl
  rcases hc with z | hc
  ·rw[←z,I.free]at e;cases e
  ·rw[I.free]at hc;cases hc
end
abbrev TH:=Addr→Addr→Ends→St→Hp→Prop
def PHs (X:Cx)(hs:List ExceptHandler)(th:TH):Prop:=∀(pins:List (Addr×Obj)) (s:Shared) (σ:St) (H:Hp) (D:Ends) (e C:Addr) (d:Option Addr) (B:Heap),(∀h5,Fly B X.stack e (.ref C) d .none h5→s.heap.UpToSlots h5→Inv X pins σ H { s with heap:=h5 })→H e=some (xr e C d)→Fly B X.stack e (.ref C) d .none s.heap→th e C D σ H →
 wpAny (model X.prog X.w) X.A (handleBy (.ref e) X.env hs) (SP X pins D) X.xe s
def unE (i:Nat)(D:Ends):Ends:={ nx:=fun σ H=>D.nx (σ.set i none) H,rt:=D.rt,bk:=fun σ H=>D.bk (σ.set i none) H,ct:=fun σ H=>D.ct (σ.set i none) H }
def hAs (K:Frag)(C0:Addr)(i:Nat)(ts:TS)(tr:TH):TH:=fun e C D σ H=>∃b,PySem.W.exmOne K (.ref C) (.ref C0)=some b∧if b=true then ts (unE i D) (σ.set i (some (.ref e))) H else tr e C D σ H
def hNone:TH:=fun _ _ _ _ _=>False
theorem ph_nil {X:Cx}:PHs X [] hNone:=fun _ _ _ _ _ _ _ _ _ _ _ _ h=>h.elim
theorem looks_cls {M:Model}{h:Heap}{e C:Addr}{o:Obj}(h1:h.get? e=some o)(h2:o.cls=.ref C):Looks M h (typeOf (.ref e)) (.ref C):=by
 intro A Q E s k q
 have h1':=k _ _ h1
 obtain⟨hp,g,d,tk,os⟩:=s
 unfold typeOf
 repeat (first | (with_reducible refine wpAny_loadPart_at h1' ?_;rw[h2]) | wp_step)
 exact q
section
variable {X:Cx}{x n:Str}{np pos:Pos}{b₀:Stmt}{suite:List Stmt}{rest:List ExceptHandler}{ts:TS}{tr:TH}{C0:Addr}{i:Nat}
theorem ph_as (hc:X.calm=true→X.A.handled=none)(hg:Gl X x)(hm:X.mg x=some (.ref C0))(hN:X.N.Nodup)(hi:X.N[i]?=some n)(hl:X.env.scope.names.lookup n=some .local)(hs:∀e,PSs (sux X e) (b₀::suite) ts)(hr:PHs X rest tr)
  (hdb:(x == ("__debug__":Str))=false:=by decide):PHs X (.ExceptHandler (some (.Name x np)) (some n) (b₀::suite) pos::rest) (hAs X.K C0 i ts tr):=by
 intro pins s σ H D e C d B cv he fl h
 obtain⟨b,hb,h⟩:=h
 have I:Inv X pins σ H s:=cv s.heap fl (Heap.UpToSlots.refl _)
 have J:=I.sux e
 refine wpAny_handleBy_cons (codeAny_handlers_test (ld_glob (X:=sux X e) J hg hm ?_ hdb)) (by intro q;cases q)
 obtain⟨oe,vs,T,oT,tt,g1,g2,_⟩:=id fl.tr
 refine(PySem.W.exm_one (M:=model X.prog X.w) I.kIn (looks_cls g1 g2) hb).here ?_
 have hp:(X.env.scope.kind == .class || (X.env.scope.kind == .module&&X.env.locals != X.env.globals))=false:=by rw[I.ok.kind];rfl
 cases b with
 | false=>exact hr pins s σ H D e C d B cv he fl h
 | true=>
  refine codeAny_handlers_suite_as (flight_none fl fun h6 fl6 up6=>?_)
  have J6:=(cv h6 fl6 up6).sux e
  refine store_ok (X:=sux X e) (i:=i) J6 hN hi (.inl hl) (v:=.ref e) rfl (fun s7 I7=>?_) (.inr hl)
  refine wpAny_mono (hs e pins s7 _ H (unE i D) I7 h) (fun f s8 q=>?_) fun _ _ z=>False.elim z
  have goes:∀ {σ8:St} {H8:Hp} {Q:Unit→Shared→Prop} (I8:Inv (sux X e) pins σ8 H8 s8),(∀s9,Inv X pins (σ8.set i none) H8 s9→Q () s9)→wpAny (model X.prog X.w) X.A (do bindName X.env n .none;unbindBehindTheSuite X.env n pos) Q X.xe s8:=fun {σ8 H8 Q} I8 k=>by
   have I9:=I8.unsux hc
   obtain⟨m,hn,hm'⟩:=I9.loc
   exact wpAny_nameGoes_keeps hl hn hp fun h' v hn' sb=>k _ (I9.unbind hN hi hm' hn' sb)
  cases f with
  | next=>
   obtain⟨σ8,H8,I8,q8⟩:=q
   exact goes I8 fun s9 I9=>⟨_,H8,I9,q8⟩
  | brk=>
   obtain⟨σ8,H8,I8,q8⟩:=q
   exact goes I8 fun s9 I9=>⟨_,H8,I9,q8⟩
  | cont=>
   obtain⟨σ8,H8,I8,q8⟩:=q
   exact goes I8 fun s9 I9=>⟨_,H8,I9,q8⟩
  | ret u=>
   obtain⟨v,σ8,H8,I8,r8,q8⟩:=q
   exact goes I8 fun s9 I9=>⟨v,_,H8,I9,r8,q8⟩
def hPlain (K:Frag)(C0:Addr)(ts:TS)(tr:TH):TH:=fun e C D σ H=>∃b,PySem.W.exmOne K (.ref C) (.ref C0)=some b∧if b=true then ts D σ H else tr e C D σ H
def tTry (tb:TSx)(th:TH):TS:=fun D σ H=>tb D (fun σ' cls oe H'=>∃e C,cls=.ref C∧oe=some e∧th e C D σ' H') σ H
theorem ps_try {body:List Stmt}{h₀:ExceptHandler}{hs:List ExceptHandler}{tb:TSx}{th:TH}(hst:X.stack=X.env::X.outer)(hfr:X.env.frame=some X.env.locals)(hb:PSsx X body tb)(hh:PHs X (h₀::hs) th):
  PS X (.Try body (h₀::hs) [] [] pos) (tTry tb th):=by
 intro pins s σ H D I h
 refine wpAny_Try_except (wpAny_mono (hb pins s σ H D _ I h) (fun f s1 q=>?_) fun ev s1 q=>?_)
 ·cases f with
  | next=>exact wpAny_execs_nil q
  | ret v=>exact q
  | brk=>exact q
  | cont=>exact q
 ·obtain⟨σ',H2,s2,I2,e,C,d,H',h1,B,rfl,os,bare,un,ok,he,kept,fl,up,e',C',ec,ee,hth⟩:=q
  cases ec
  cases ee
  have fr:X.A.frames=some (X.env::X.outer):=by rw[←hst];exact I.ok.frames
  rw[hst]at fl
  refine note_next fr hfr fl fun h4 fl4 up4=>flight_none (s:={ s1 with heap:=h4 }) fl4 fun h5 fl5 up5=>?_
  rw[←hst]at fl5
  exact hh pins { s1 with heap:=h5 } σ' H' D e C d B (fun h6 fl6 up6=>caught_inv (s1:=s1) I2 os bare un ok he kept fl6 (up.trans (up4.trans (up5.trans up6)))) he fl5 hth
end
end L2
namespace L2
open PySem PySem.Spec PyProof.Rows
open PySem.W (Frag findIn specialIn typeIn mroIn clsIn subIn kitOne kitCls InstAt Looks)
section
variable {X:Cx}{pins:List (Addr×Obj)}{σ:St}{H:Hp}{s:Shared}{e C:Addr}{fs:List (Str×V)}{f:Str}{v:V}{A:Around}{E:Value→Shared→Prop}
theorem xr_obj {d:Option Addr}(I:Inv X pins σ H s)(h:H e=some (xr e C d)):∃(o:Obj) (vs:Array Value),s.heap.get? e=some o∧o.cls=.ref C∧o.dict=d∧o.data=.fields vs:=(I.hok e _ h).1
theorem XAny.inst (I:Inv X pins σ H s)(x:XAny H e C fs):∃(ox:Obj) (od:Option Obj),InstAt s.heap e ox C od∧∀name,∃r,(match od with | some o=>PySem.W.lookIn name o | none=>some none)=some r∧RelO (fs.lookup name) r:=by
 cases x with
 | un h=>exact h.inst I
 | bare h=>
  obtain⟨o,vs,h1,h2,h3,h4⟩:=xr_obj I h
  exact⟨o,none,⟨h1,h2,by unfold PySem.W.notCls;rw[h4],by rw[h3];trivial⟩,fun name=>⟨none,rfl,by trivial⟩⟩
 | @full d _ h h' hne=>
  obtain⟨o,vs,h1,h2,h3,h4⟩:=xr_obj I h
  obtain⟨⟨_,mA,hn,hr,_⟩,_⟩:=I.hok d _ h'
  obtain⟨od,hod,hl⟩:=lookIn_ns hn
  exact⟨o,some od,⟨h1,h2,by unfold PySem.W.notCls;rw[h4],by rw[h3];exact hod⟩,fun name=>⟨mA name,hl name,hr name⟩⟩
theorem xgetR {b:Bool}{Q:Value→Shared→Prop}(I:Inv X pins σ H s)(x:XAny H e C fs)(c:Xc X.K C)(n:NoAttr X.K C f)(l:fs.lookup f=some v)(h:∀u s',Inv X pins σ H s'→RelV v u→Q u s'):wpAny (model X.prog X.w) A (getAttr (.ref e) f b) Q E s:=by
 obtain⟨ox,od,J,hr⟩:=x.inst I
 obtain⟨r,hl,ro⟩:=hr f
 rw[l]at ro
 obtain⟨u,rfl,ru⟩:=RelO.some_of ro
 refine xget_value I.kIn J c ?_ (handed_of ru) (h u _ (I.tok _) ru)
 cases od with
 | none=>cases hl
 | some o=>exact PySem.W.findObj_own c.hd n rfl hl
end
def tXFldR (K:Frag)(ta:TE)(f:Str):TE:=fun σ H Q=>ta σ H fun x H1=>∃e C fs v,x=.ref e∧XAny H1 e C fs∧Xc K C∧NoAttr K C f∧fs.lookup f=some v∧Q v H1
theorem pe_xfldR {X:Cx}{K:Frag}{e:Expr}{f:Str}{pos:Pos}{ta:TE}(hK:X.K=K)(he:PE X e ta)(hb:attributeBase e f X.env (eval e X.env)=eval e X.env):PE X (.Attribute e f pos) (tXFldR K ta f):=by
 subst hK
 intro pins s σ H Q I h
 refine attr_of hb (thn (he pins s σ H _ I h) fun u s1 ⟨x,H1,I1,rx,a,C,fs,v,ex,xa,c,n,l,q⟩=>?_)
 subst ex
 obtain rfl:u=Value.ref a:=rx
 exact xgetR I1 xa c n l fun u' s2 I2 ru=>⟨v,H1,I2,ru,q⟩
inductive TyR (K:Frag) (H:Hp):V→Value→Prop where
 | ty {x:V} {t:Value} (h:TyX K H x t):TyR K H x t
 | exc {e C:Addr} {fs:List (Str×V)} (x:XAny H e C fs) (i:Xi K C):TyR K H (.ref e) (.ref C)
theorem call_isinstR {X:Cx}{K:Frag}(hK:X.K=K):CallR X (.builtin "isinstance") (fun xs H Q=>∃x c t k b,xs=[x,c]∧clsV c=some k∧TyR K H x t∧kitOne K t k=some b∧Q (.bl b) H):=by
 subst hK
 rintro pins s σ H xs us Q I r ⟨x,c,t,k,b,rfl,hk,ty,e,q⟩
 cases ty with
 | ty h=>exact call_isinst pins s σ H _ us Q I r ⟨x,c,t,k,b,rfl,hk,h,e,q⟩
 | exc xa i=>
  obtain⟨u,v,rfl,ru,rv⟩:=r.two
  have hv:v=k:=by
   cases c with
   | ref a=>cases hk;exact rv
   | ty n=>cases hk;exact rv
   | _=>cases hk
  subst hv
  cases ru
  obtain⟨ox,od,J,_⟩:=xa.inst I
  exact PySem.W.kia_one (kitx_exc i) I.kIn J e (fun z=>nomatch z) fun tk=>⟨.bl b,H,I.tok _,rfl,q⟩
theorem exm_ref {K:Frag} {C D:Addr} {m1 m2:List Value} {b:Bool} (c:ClsOk K C m1) (d:ClsOk K D m2) (hb:m2.contains (.type "BaseException")=true) (h:m1.contains (.ref D)=b):PySem.W.exmOne K (.ref C) (.ref D)=some b:=by
 obtain⟨cd,e1,e2⟩:=c.cd
 obtain⟨cd',e3,e4⟩:=d.cd
 have hs:PySem.W.subIn K (.ref D) (.type "BaseException")=some true:=by
  unfold PySem.W.subIn PySem.W.mroIn
  dsimp only
  rw[e3,Option.bind_some,e4,d.ne,hb]
  rfl
 unfold PySem.W.exmOne
 rw[if_pos (by rw[hs];rfl)]
 unfold PySem.W.kitCls
 dsimp only
 rw[e3,d.ty]
 simp only[Option.isSome_some,Bool.true_and,beq_self_eq_true,if_true]
 unfold PySem.W.subIn PySem.W.mroIn
 dsimp only
 rw[e1,Option.bind_some,e2,c.ne,h]
 rfl
end L2
namespace L2
open PySem PySem.Spec PyProof.Rows
open PySem.W (Frag)
theorem ObjOk.there {P:Program}{w:World}{H:Hp}{h:Heap}{a:Addr}:∀ {o:HO},ObjOk P w H h a o→∃u,h.get? a=some u
 | .lst _,x=>by obtain⟨_,_,_,_,e⟩:=x;exact⟨_,e⟩
 | .tup _,x=>by obtain⟨_,_,_,ob,e,_⟩:=x;exact⟨_,e⟩
 | .dK _,x=>by obtain⟨_,_,_,_,ob,_,_,e,_⟩:=x;exact⟨_,e⟩
 | .dT _,x=>by obtain⟨_,_,_,_,ob,_,_,e,_⟩:=x;exact⟨_,e⟩
 | .set _ _,x=>by obtain⟨ob,_,_,_,e,_⟩:=x;exact⟨_,e⟩
 | .ins _ _ _,x=>by obtain⟨_,_,_,e,_⟩:=x;exact⟨_,e⟩
 | .own _,x=>x
 | .xd _,x=>by obtain⟨_,⟨ob,_,_,e,_⟩,_⟩:=x;exact⟨_,e⟩
 | .met _ _,x=>⟨_,x⟩
 | .rng _ _,x=>by obtain⟨_,_,_,e⟩:=x;exact⟨_,e⟩
 | .frz _ _,x=>⟨_,x.1⟩
 | .tbl _,x=>⟨_,x⟩
 | .ext _,x=>x.2.1
theorem HOk.none_of {P:Program}{w:World}{H:Hp}{h:Heap}{a:Addr}(ok:HOk P w H h)(n:h.get? a=none):H a=none:=by
 cases q:H a with
 | none=>rfl
 | some o=>
  obtain⟨u,hu⟩:=(ok a o q).there
  rw[n]at hu
  cases hu
theorem Inv.laid2 {X:Cx}{pins:List (Addr×Obj)}{σ:St}{H:Hp}{s s':Shared}{a:Addr}{o:HO}(I:Inv X pins σ H s)(os:s'.os=s.os)(hg:s'.gens=s.gens)(k:∀b u,s.heap.get? b=some u→s'.heap.get? b=some u)(nw:s.heap.get? a=none)
  (new:ObjOk X.prog X.w (upd H a o) s'.heap a o):Inv X pins σ (upd H a o) s':=by
 have hn:=I.hok.none_of nw
 have ne:∀b u,s.heap.get? b=some u→b≠a:=fun b u q z=>by rw[z,nw]at q;cases q
 have neH:∀b u,H b=some u→b≠a:=fun b u q=>ne_of_none q hn
 refine I.call' (ch:=[]) os ⟨fun b u q _ _ _=>k b u q,fun b u q _ _ _=>⟨u.slots,k b u q⟩,fun b u q n _=>by rw[upd_ne (ne b u q)];exact n,fun b u q _=>⟨u,k b u q⟩,fun b xs q=>by rw[upd_ne (neH b _ q)];exact q,fun b u v q=>by rw[upd_ne (neH b _ q)];exact q,fun b ps q=>⟨#[],by rw[upd_ne (neH b _ q),Array.append_empty];exact q⟩⟩
  (fun b u q=>?_) (by rw[hg];exact I.bare) (fun b hb=>by cases hb)
 by_cases hb:b=a
 ·subst hb
  rw[upd_same]at q
  cases q
  exact new
 ·rw[upd_ne hb]at q
  exact(I.hok b u q).stay (fun c w' _ q=>k c w' q) (fun c q=>by rw[upd_ne (neH c _ q)];exact q) fun c xs q=>by rw[upd_ne (neH c _ q)];exact q
section
variable {X:Cx}
def signs (l:List Nat):List (List Nat):=l.map fun c=>[c]
theorem items_signs {l:List Nat}{acc:Array Value}(h:ItemsOf (SignAt ⟨l.toArray⟩) acc (⟨l.toArray⟩:Str).cps.size):Vals ((signs l).map tx) acc.toList:=by
 obtain⟨h1,h2⟩:=h
 have hl:(⟨l.toArray⟩:Str).cps.size=l.length:=by show l.toArray.size=_;simp
 rw[hl]at h1
 have gen:∀(l:List Nat) (us:List Value),us.length=l.length→(∀(j:Nat) (v:Value),us[j]?=some v→∃(c:Nat) (u:Tok),l[j]?=some c∧v=Value.str ⟨#[c]⟩ u)→Vals ((signs l).map tx) us:=by
  intro l
  induction l with
  | nil=>
   intro us hl _
   have:us=[]:=List.eq_nil_of_length_eq_zero hl
   subst this
   exact .nil
  | cons c l ih=>
   intro us hl h
   cases us with
   | nil=>cases hl
   | cons u us=>
    obtain⟨c',t,e,rfl⟩:=h 0 u rfl
    cases e
    refine .cons ⟨t,rfl⟩ (ih us (by simpa using hl) fun j v e=>h (j+1) v e)
 refine gen l acc.toList (by rw[Array.length_toList,h1]) fun j v e=>?_
 rw[Array.getElem?_toList]at e
 obtain⟨c,u,e1,e2⟩:=h2 j v e
 exact⟨c,u,by simpa using e1,e2⟩
theorem call_list_tx (hc:X.calm=true):CallR X (.type "list") (fun xs H Q=>∃l,xs=[tx l]∧l.length≤1000∧NewL ((signs l).map tx) H Q):=by
 rintro pins s σ H xs us Q I r ⟨l,rfl,hz,q⟩
 obtain⟨u,rfl,t,rfl⟩:=r.one
 have hl:(⟨l.toArray⟩:Str).cps.size=l.length:=by show l.toArray.size=_;simp
 refine call_list_str (I.ok.hd hc) _ t (fun h' tk acc c k e it=>?_) (by rw[hl];exact Nat.le_of_lt (small1000 hz))
 refine⟨.ref s.heap.objs.size,_,I.laid (t':=tk) k (Nat.le_refl _) ?_,rfl,q _ I.fresh⟩
 exact⟨by unfold signs;rw[List.length_map,List.length_map];exact Nat.le_of_lt (small1000 hz),acc.toList,c,items_signs it,by rw[Array.toArray_toList];exact e⟩
theorem call_allL (hc:X.calm=true):CallR X (.builtin "all") (fun xs H Q=>∃(a:Addr) (bs:List Bool),xs=[.ref a]∧H a=some (.lst (bs.map V.bl))∧Q (.bl (bs.all id)) H):=by
 rintro pins s σ H xs us Q I r ⟨a,bs,rfl,ha,q⟩
 obtain⟨u,rfl,ru⟩:=r.one
 cases ru
 obtain⟨_,its,n,r',hlen,e⟩:=I.lstM ha
 have hl:s.heap.IsList a its.toArray:=PySem.IsL.isList e
 have hne:a≠s.heap.objs.size:=Nat.ne_of_lt (Heap.lt_size e)
 refine call_all_walkS (wpAny_pyIter_list hl ?_)
 have hL:its.toArray.size=bs.length:=by rw[List.size_toArray,←r'.length,List.length_map]
 have W:=(Walks.list (prog:=X.prog) (w:=X.w) (A:=X.A.in1) (by simpa using I.ok.hd hc) s.heap.objs.size a hne its.toArray).toS
 refine⟨s.heap.objs.size,_,_,_,_,_,_,fun i=>bs.getD i true,rfl,W,⟨⟨_,Heap.get?_push_size _ rfl,rfl,rfl⟩,hl.push _⟩,?_,fun s' hm=>?_⟩
 ·intro i v s Q E hv hQ
  have e':its[i]?=some v:=by simpa using hv
  obtain⟨x,hx,rx⟩:=vals_at r' e'
  rw[List.getElem?_map]at hx
  cases hb:bs[i]? with
  | none=>rw[hb]at hx;cases hx
  | some b=>
   rw[hb]at hx
   cases hx
   obtain rfl:v=Value.bool b:=rx
   have:bs.getD i true=b:=by rw[List.getD_eq_getElem?_getD,hb];rfl
   have hQ':Q (bs.getD i true) s:=hQ
   rw[this]at hQ'
   exact wpAny_truthy_bool hQ'
 ·have ea:(List.range its.toArray.size).all (fun i=>bs.getD i true)=bs.all id:=by
   rw[hL]
   rw[Bool.eq_iff_iff,List.all_eq_true,List.all_eq_true]
   constructor
   ·intro h b hb
    obtain⟨i,hi,rfl⟩:=List.getElem_of_mem hb
    have:=h i (List.mem_range.mpr hi)
    rw[List.getD_eq_getElem?_getD,List.getElem?_eq_getElem hi]at this
    exact this
   ·intro h i hi
    have hi:=List.mem_range.mp hi
    rw[List.getD_eq_getElem?_getD,List.getElem?_eq_getElem hi]
    exact h _ (List.getElem_mem hi)
  rw[ea]
  have I2:Inv X pins σ H s':=I.call' (ch:=[]) hm.os (Un.kept fun b o q=>hm.heap b o (fun z=>?_) (Heap.get?_push_of_some _ q)) (I.hok.kept fun b o q=>hm.heap b o (fun z=>?_) (Heap.get?_push_of_some _ q)) (by rw[show s'.gens=s.gens from hm.gens];exact I.bare) (fun b hb=>by cases hb)
  ·exact⟨.bl _,H,I2,rfl,q⟩
  ·have z:b=s.heap.objs.size:=by simpa using z
   rw[z]at q;exact absurd (Heap.lt_size q) (Nat.lt_irrefl _)
  ·have z:b=s.heap.objs.size:=by simpa using z
   rw[z]at q;exact absurd (Heap.lt_size q) (Nat.lt_irrefl _)
def tset (P:Program)(w:World)(a:Addr)(ls:List (List Nat)):HO:=.ext fun h=>TxSet P w h a ls (!byTxt w)
theorem tset_ok {P:Program}{w:World}{H:Hp}{h:Heap}{a:Addr}{ls:List (List Nat)}(x:TxSet P w h a ls (!byTxt w)):ObjOk P w H h a (tset P w a ls):=by
 obtain⟨o,es,ep,t,ms,h1,r⟩:=id x
 exact⟨x,⟨o,h1⟩,fun g1 g2 y k=>y.keep k⟩
def ddl (ls:List (List Nat)):List (List Nat):=ls.foldl addT []
theorem dd_list {ls:List (List Nat)}:dd (fun i=>ls.getD i []) ls.length=ddl ls:=by
 unfold dd ddl
 congr 1
 apply List.ext_getElem
 ·simp
 ·intro n h1 h2
  simp[h2]
theorem call_set_tx (hc:X.calm=true):CallR X (.type "set") (fun xs H Q=>∃ls:List (List Nat),ls.length≤1000∧((∃l,xs=[tx l]∧ls=signs l)∨∃a,xs=[.ref a]∧SqL X.K H a (ls.map tx))∧∀p,H p=none→Q (.ref p) (upd H p (tset X.prog X.w p (ddl ls)))):=by
 rintro pins s σ H xs us Q I r ⟨ls,hz,hx,q⟩
 have hb:ls.length+1<scanBound:=by show _<4096;omega
 have fin:∀(h':Heap) (tk:Nat),TxSet X.prog X.w h' s.heap.objs.size (ddl ls) (!byTxt X.w)→(∀b o,s.heap.get? b=some o→h'.get? b=some o)→EP X pins σ Q (.ref s.heap.objs.size) { s with heap:=h',toks:=tk }:=fun h' tk hS k=>
  ⟨.ref s.heap.objs.size,_,I.laid (t':=tk) k (Nat.le_refl _) (tset_ok hS),rfl,q _ I.fresh⟩
 rcases hx with⟨l,rfl,rfl⟩|⟨a,rfl,hq⟩
 ·obtain⟨u,rfl,t,rfl⟩:=r.one
  have hl:(signs l).length=l.length:=by unfold signs;rw[List.length_map]
  have e0:dd (fun i=>[l.getD i 0]) l.length=ddl (signs l):=by
   unfold dd ddl signs
   congr 1
   apply List.ext_getElem
   ·simp
   ·intro n h1 h2
    have:n<l.length:=by simpa using h2
    simp[this]
  refine set_call (I.ok.hd hc) (walked_text (prog:=X.prog) (w:=X.w) (s:=s) (l:=l) (t:=t)) F.sub_str_set F.sub_str_frozenset (by decide) (by rw[←hl];exact hb) fun h' tk hS k _=>?_
  rw[e0]at hS
  exact fin h' tk hS k
 ·obtain⟨u,rfl,ru⟩:=r.one
  cases ru
  obtain⟨its,rv,p,_⟩:=I.list hq
  refine set_call (I.ok.hd hc) (walked_list (prog:=X.prog) (w:=X.w) (s:=s) p.isList rv) F.sub_list_set F.sub_list_frozenset (by decide) hb fun h' tk hS k _=>?_
  rw[dd_list]at hS
  exact fin h' tk hS k
theorem call_sorted_set (hc:X.calm=true):CallR X (.builtin "sorted") (fun xs H Q=>∃a ls,xs=[.ref a]∧H a=some (tset X.prog X.w a ls)∧ls.length<64∧NewL ((sortT ls).map tx) H Q):=by
 rintro pins s σ H xs us Q I r ⟨a,ls,rfl,ha,h64,q⟩
 obtain⟨u,rfl,ru⟩:=r.one
 cases ru
 have hS:TxSet X.prog X.w s.heap a ls (!byTxt X.w):=(I.hok a _ ha).1
 refine sorted_set (I.ok.hd hc) hS h64 fun s' b us e nw k hg ho hb rv=>?_
 have hl:(sortT ls).length≤sizeLine:=by rw[(sortT_perm ls).length_eq];exact Nat.le_trans (Nat.le_of_lt h64) (by rw[sizeLine_eq];decide)
 exact⟨.ref b,_,I.laid2 (o:=.lst ((sortT ls).map tx)) ho hg k nw ⟨by rw[List.length_map];exact hl,us,e,rv,hb⟩,rfl,q b (I.hok.none_of nw)⟩
end
theorem pe_strT {X:Cx}{x:Str}{l:List Nat}{j:Nat}{pos:Pos}(h:x=⟨l.toArray⟩):PE X (.Constant (.str x) j pos) (tC (tx l)):=by subst h;exact pe_str
theorem pe_globS {X:Cx} {x y:Str} {pos:Pos} (hg:Gl X x) (hm:∃t,X.mg x=some (.str y t)) (hd:(x == ("__debug__":Str))=false:=by decide):PE X (.Name x pos) (tC (.str y)):=by
 obtain⟨t,h⟩:=hm
 exact pe_glob hg h ⟨t,rfl⟩ hd
theorem pe_globI {X:Cx} {x:Str} {y:Int} {pos:Pos} (hg:Gl X x) (hm:∃t,X.mg x=some (.int y t)) (hd:(x == ("__debug__":Str))=false:=by decide):PE X (.Name x pos) (tC (.int y)):=by
 obtain⟨t,h⟩:=hm
 exact pe_glob hg h ⟨t,rfl⟩ hd
section
variable {CX:CXT}{P:Program}{w:World}{K:PySem.W.Frag}{mg:Str→Option Value}{base:Heap}{N:List Str}{qual:Str}{scope:Scope}{f:Addr}{cd:Value}{A:Around}{outer:List Env}{s:Shared}{H:Hp}{E:XK}{X:Cx}{e:Addr}
theorem cxPr:(cxOf CX P w K mg base N qual scope f cd A outer s H E).prog=P:=rfl
theorem cxWo:(cxOf CX P w K mg base N qual scope f cd A outer s H E).w=w:=rfl
theorem suxK:(sux X e).K=X.K:=rfl
theorem suxPr:(sux X e).prog=X.prog:=rfl
theorem suxWo:(sux X e).w=X.w:=rfl
end
end L2
namespace L2
open PySem PySem.Spec PyProof.Rows
open PySem.W (Frag KeqHits)
theorem hits_self {κ:Type}[DecidableEq κ]{A:Around}{s:Shared}{kb:List (κ×Value)}(nd:(kb.map (·.1)).Nodup):∀(r:List (κ×Value)),(∀x∈r,x∈kb)→KeqHits A s kb r true
 | [],_=>.nil
 | (k,v)::r,hm=>by
  have h1:valueAt kb k=some v:=by
   unfold valueAt
   have hin:=hm (k,v) List.mem_cons_self
   obtain⟨y,hy,e⟩:∃y,kb.find? (fun kv=>kv.1=k)=some y∧y=(k,v):=by
    clear hm
    induction kb with
    | nil=>cases hin
    | cons z kb ih=>
     rw[List.map_cons,List.nodup_cons]at nd
     rcases List.mem_cons.mp hin with e | e
     ·subst e;exact⟨_,by simp,rfl⟩
     ·have hz:¬z.1=k:=fun e'=>nd.1 (e'▸List.mem_map_of_mem (f:=(·.1)) e)
      obtain⟨y,hy,e2⟩:=ih nd.2 e
      exact⟨y,by rw[List.find?_cons_of_neg (by simpa using hz)];exact hy,e2⟩
   rw[hy,e];rfl
  exact .hit (e:=true) (b:=true) h1 (SeqAt.EqAt.same _) (hits_self nd r fun x hx=>hm x (List.mem_cons_of_mem _ hx))
def rEqS (K:Frag)(neg:Bool):R2:=fun x y H Q=>rEqD K neg x y H Q∨∃(a:Addr) (kvs:List (Key×V)),x=.ref a∧y=.ref a∧H a=some (.dK kvs)∧Q (.bl (!neg)) H
section
variable {X:Cx}{K:Frag}
theorem op_eqS (hK:X.K=K)(hu:X.A.units+64<cLine):OpR X (compareOp .Eq) (rEqS K false):=by
 subst hK
 intro pins s σ H x y v u Q I rx ry h
 rcases h with h | ⟨a,kvs,rfl,rfl,e,q⟩
 ·exact op_eqD hu pins s σ H x y v u Q I rx ry h
 ·cases rx;cases ry
  obtain⟨_,hm,vs,_,d⟩:=dk_of I.hok e
  have nd:(vs.map (·.1)).Nodup:=let ⟨_,_,_,_,_,_,_,_,n⟩:=d;n
  exact PySem.W.keq_eq hm hm d d (by omega) (fun _=>hits_self nd vs fun _ hx=>hx) ⟨.bl true,H,I,by simp;rfl,q⟩
end
end L2
namespace L2
open PySem PySem.Spec PyProof.Rows
open PySem.W (Frag)
theorem pass_on {P:Program}{w:World}{K:Frag}{mg:Str→Option Value}{base:Heap}{N:List Str}{qual:Str}{scope:Scope}{f:Addr}{cd:Value}{A:Around}{outer:List Env}{s0:Shared}{H0:Hp}{E:XK}:
  Passes (CXr P w) (cxOf (CXr P w) P w K mg base N qual scope f cd A outer s0 H0 E) E:=by
 intro pins σ H s ev s' I hx
 generalize hX:cxOf (CXr P w) P w K mg base N qual scope f cd A outer s0 H0 E=X at I hx ⊢
 have eA:X.A=A.deeper (envOfC qual scope s0.heap.objs.size f cd):=by rw[←hX];rfl
 have eS:X.stack=envOfC qual scope s0.heap.objs.size f cd::outer:=by rw[←hX];rfl
 have eF:X.fs=frs outer:=by rw[←hX];rfl
 have e0:X.s₀=s0:=by rw[←hX];rfl
 have eH:X.H₀=H0:=by rw[←hX];rfl
 have eX:X.ex=[]:=by rw[←hX];rfl
 have ePr:X.prog=P:=by rw[←hX];rfl
 have eW:X.w=w:=by rw[←hX];rfl
 have hxe:∀ev s',wpAny (model P w) (A.deeper (envOfC qual scope s0.heap.objs.size f cd)) (leaving (envOfC qual scope s0.heap.objs.size f cd) ev) (fun _ s''=>CXr P w outer H0 s0 E ev s'') (fun e' s''=>CXr P w outer H0 s0 E e' s'') s'→X.xe ev s':=by
  intro ev s' z;rw[←hX];exact z
 obtain⟨e,C,d,H',h1,B,rfl,hos,hbare,un,ok,he,kept,fl,up,hE⟩:=hx
 refine hxe _ _ ?_
 have hfr:(A.deeper (envOfC qual scope s0.heap.objs.size f cd)).frames=some (envOfC qual scope s0.heap.objs.size f cd::outer):=by rw[←eA,←eS];exact I.ok.frames
 have J:Inv X pins σ H' { s' with heap:=h1 }:=I.call' (s':={ s' with heap:=h1 }) (ch:=[]) hos un (by rw[ePr,eW];exact ok) hbare (fun b hb=>by cases hb)
 rw[eS]at fl
 refine leave_next hfr rfl fl fun h' fl' up'=>?_
 have os:s'.os=s0.os:=by rw[hos,←e0];exact I.os
 have un':Un (frs outer) [] H0 H' s0.heap h1:=by
  have:=J.base
  rwa [eF,eX,eH,e0]at this
 refine⟨e,C,d,H',h1,B,rfl,os,hbare,un',ok,he,fun b o hb hne hc=>?_,fl',up.trans up',hE⟩
 rcases hc with hu | ⟨⟨o',ho'⟩,hn⟩
 ·exact kept b o hb hne (.inl hu)
 ·refine kept b o hb hne (.inr ⟨?_,fun z=>?_⟩)
  ·have:=I.base
   rw[eF,eX,eH,e0]at this
   exact this.there b o' ho' (by simp)
  ·rw[eS]at z
   have z':b=s0.heap.objs.size∨b∈frs outer:=by
    have:=z
    unfold frs at this
    rw[List.filterMap_cons]at this
    simpa [envOfC,frs] using this
   rcases z' with z' | z'
   ·rw[z']at ho';exact absurd (Heap.lt_size ho') (Nat.lt_irrefl _)
   ·exact hn z'
end L2
namespace L2
open PySem PySem.Spec PyProof.Rows
section
variable {prog:Program}{w:World}{A:Around}{E:Value→Shared→Prop}{s:Shared}
variable {z TI TO i1 i2:Addr}{f1 f2:List Addr}{n i:Nat}{P1 P2:Nat→Value→Prop}{S1 S2:Nat→Heap→Prop}{a b:Value}
end
section
variable {prog:Program}{w:World}{A:Around}{E:Value→Shared→Prop}{s:Shared}{z TI TO i1 i2:Addr}{f1 f2:List Addr}{n i:Nat}{P1 P2:Nat→Value→Prop}{S1 S2:Nat→Heap→Prop}{a b:Value}
end
def Itz (K:PySem.W.Frag)(a b:Addr):It:=
  ⟨fun i H=>∃xs ys x y,SqT K H a xs∧SqT K H b ys∧xs.length=ys.length∧xs[i]?=some x∧ys[i]?=some y,
   fun i H v H'=>∃p x y,H p=none∧v=.ref p∧H'=upd H p (.tup [x,y])∧(∀xs,SqT K H a xs→xs[i]?=some x)∧∀ys,SqT K H b ys→ys[i]?=some y,
   fun i H=>∃xs ys,SqT K H a xs∧SqT K H b ys∧xs.length=ys.length∧xs.length=i⟩
section
variable {X:Cx}{es:List Expr}{x1:Nat}{tp:Pos}
def iZip (K:PySem.W.Frag)(ta:TA):TI:=fun σ H R=>ta σ H fun vs H1=>∃a b,vs=[.ref a,.ref b]∧(∃xs,SqT K H1 a xs)∧(∃ys,SqT K H1 b ys)∧R (Itz K a b) H1
end
section
variable {prog:Program}{w:World}{A:Around}{E:Value→Shared→Prop}{s:Shared}{l I S:Addr}{ls:List (List Nat)}{vs:List Value}{R:Result→Shared→Prop}{Q:Value→Shared→Prop}
end
section
variable {X:Cx}{e:Expr}{ta:TA}{p p2 pos kpos:Pos}
def repT (l:List Nat)(n:Int):List Nat:=(List.replicate n.toNat l).flatten
theorem foldl_cat (a:Array Nat):∀(n:Nat) (acc:Array Nat),((List.replicate n a).foldl (·++·) acc).toList=acc.toList++(List.replicate n a.toList).flatten
 | 0,acc=>by simp
 | n+1,acc=>by
  rw[List.replicate_succ,List.foldl_cons,foldl_cat a n,List.replicate_succ]
  simp
theorem mul_eq (l:List Nat)(n:Int):Txt.mul ⟨l.toArray⟩ n=⟨(repT l n).toArray⟩:=by
 unfold Txt.mul repT
 by_cases h1:n<1
 ·rw[if_pos h1]
  have:n.toNat=0:=by omega
  rw[this];rfl
 ·rw[if_neg h1]
  split
  ·rename_i h
   rw[Bool.or_eq_true]at h
   rcases h with h | h
   ·have:n=1:=by simpa using h
    subst this
    simp
   ·have:l=[]:=by
     have:=beq_iff_eq.mp h
     rw[txlen]at this
     exact List.length_eq_zero_iff.mp this
    subst this
    simp
  ·congr 1
   apply Array.ext'
   rw[foldl_cat]
   simp
theorem op_mul_tx:OpR X (binaryOp .Mult) (fun x y H Q=>∃l n,x=tx l∧y=.int n∧0≤n∧n≤1000∧l.length≤1000∧Q (tx (repT l n)) H):=by
 rintro pins s σ H x y v u Q I rx ry ⟨l,n,rfl,rfl,h0,h1,h2,q⟩
 obtain⟨t,rfl⟩:=rx
 obtain⟨t',rfl⟩:=ry
 have e1:(⟨l.toArray⟩:Str).length=l.length:=txlen l
 refine SB.mul ⟨?_,fun a b=>?_,fun a b=>?_⟩ fun t2 k=>?_
 ·simp only[Bool.or_eq_false_iff,decide_eq_false_iff_not];omega
 ·rw[e1]
  have e3:(1000:Int)≤(2 ^ 63-1)/n:=by
   rw[Int.le_ediv_iff_mul_le (by omega)]
   omega
  omega
 ·rw[e1]
  have:l.length*n.toNat≤1000*1000:=Nat.mul_le_mul h2 (by omega)
  unfold Builtin.Str.tooLong
  simp only[decide_eq_false_iff_not]
  rw[sizeLine_eq]
  omega
 ·rw[mul_eq];exact⟨tx _,H,I.tok _,⟨_,rfl⟩,q⟩
end
end L2
namespace L2
open PySem PySem.Spec PyProof.Rows
open PySem.W (Frag)
def sNo:TS:=fun _ _ _=>False
theorem ps_no {X:Cx}{st:Stmt}:PS X st sNo:=fun _ _ _ _ _ _ h=>h.elim
section
variable {X:Cx}{CX:CXT}{k:Nat}{L f:Addr}{fd:FuncData}{ps:List Str}{sp:Sp}{E:XK}{x:Str}{pos apos np:Pos}{e:Expr}{es:List Expr}{t:TA}{ds:List Value}{dvs:List V}
end
def WhileRun (c:TT)(tb:TS)(D:Ends)(σ:St)(H:Hp):Prop:=tWhile c tb D σ H
theorem q_while {c:TT}{tb:TS}{D:Ends}{σ:St}{H:Hp}:tWhile c tb D σ H=WhileRun c tb D σ H:=rfl
theorem WhileRun.by {c:TT}{tb:TS}{D:Ends}{σ:St}{H:Hp}(Pv:St→Hp→Prop)(μ:St→Hp→Nat)(h0:Pv σ H)
  (hs:∀σ H,Pv σ H→∃b:Bool,(∀Q:Bool→Hp→Prop,(∀H1,Same H H1→Q b H1)→c σ H Q)∧∀H1,Same H H1→if b=true then tb { D with nx:=fun σ' H'=>Pv σ' H'∧μ σ' H'<μ σ H,ct:=fun σ' H'=>Pv σ' H'∧μ σ' H'<μ σ H,bk:=D.nx } σ H1 else D.nx σ H1):WhileRun c tb D σ H:=by
 refine⟨fun m σ H=>m=μ σ H∧Pv σ H,⟨_,rfl,h0⟩,?_⟩
 rintro m σ H ⟨rfl,p⟩
 obtain⟨b,hc,hb⟩:=hs σ H p
 refine hc _ fun H1 s1=>?_
 have q:=hb H1 s1
 cases b with
 | true=>exact⟨_,fun σ' H' ⟨p',l⟩=>⟨_,l,rfl,p'⟩,q⟩
 | false=>exact q
end L2
namespace L2
open PySem PySem.Spec PyProof.Rows
section
variable {M:Model}{A:Around}{E:Value→Shared→Prop}{s:Shared}{bey:Nat→StateT SortSt Sem (Option Bool)}{B:Nat→Bool}{n h:Nat}{st:SortSt}{Q:Option Nat→SortSt→Prop}
end
structure Cmp (D:Keyed→Prop)(L:Keyed→Keyed→Bool):Prop where
 asym:∀x y,D x→D y→L x y=true→L y x=false
 tr:∀x y z,D x→D y→D z→L y x=false→L z y=false→L z x=false
abbrev Le (L:Keyed→Keyed→Bool)(x y:Keyed):Prop:=L y x=false
section
variable {D:Keyed→Prop}{L:Keyed→Keyed→Bool}{T o x y p:List Keyed}
end
section
variable {M:Model}{A:Around}{E:Value→Shared→Prop}{s:Shared}{D:Keyed→Prop}{L:Keyed→Keyed→Bool}{kd:SortKind}
end
section
variable {M:Model}{A:Around}{E:Value→Shared→Prop}{s:Shared}{D:Keyed→Prop}{L:Keyed→Keyed→Bool}{kd:SortKind}{p q:Array Keyed}{T:List Keyed}{st:SortSt}
structure LoH (D:Keyed→Prop)(L:Keyed→Keyed→Bool)(p q:Array Keyed):Prop where
 dp:∀u∈p.toList,D u
 dq:∀u∈q.toList,D u
 sp:p.toList.Pairwise (Le L)
 sq:q.toList.Pairwise (Le L)
 last:∀u∈q.toList,∀v∈p.toList.drop (p.size-1),L u v=true
end
section
variable {M:Model}{A:Around}{E:Value→Shared→Prop}{s:Shared}{D:Keyed→Prop}{L:Keyed→Keyed→Bool}{kd:SortKind}{p q:Array Keyed}{T:List Keyed}{st:SortSt}
structure HiH (D:Keyed→Prop)(L:Keyed→Keyed→Bool)(p q:Array Keyed):Prop where
 dp:∀u∈p.toList,D u
 dq:∀u∈q.toList,D u
 sp:p.toList.Pairwise (Le L)
 sq:q.toList.Pairwise (Le L)
 first:∀u∈q.toList.take 1,∀v∈p.toList,L u v=true
end
section
variable {M:Model}{A:Around}{E:Value→Shared→Prop}{s:Shared}{D:Keyed→Prop}{L:Keyed→Keyed→Bool}{kd:SortKind}{st:SortSt}
theorem slice {a:Array Keyed}{x y z:List Keyed}{b n:Nat}(h:a.toList=x++y++z)(hb:b=x.length)(hn:n=y.length):(a.toList.drop b).take n=y:=by
 rw[h,hb,hn,List.append_assoc,List.drop_left,List.take_left]
end
abbrev CmpT (L:Keyed→Keyed→Bool):Prop:=Cmp (fun _=>True) L
theorem CmpT.t {L:Keyed→Keyed→Bool}(h:CmpT L){x y z:Keyed}(e:Le L x y)(f:Le L y z):Le L x z:=h.tr x y z trivial trivial trivial e f
section
variable {M:Model}{A:Around}{E:Value→Shared→Prop}{s:Shared}{D:Keyed→Prop}{L:Keyed→Keyed→Bool}{kd:SortKind}{st:SortSt}
end
section
variable {M:Model}{A:Around}{E:Value→Shared→Prop}{s:Shared}{D:Keyed→Prop}{L:Keyed→Keyed→Bool}{kd:SortKind}{st:SortSt}
end
section
variable {M:Model}{A:Around}{E:Value→Shared→Prop}{s:Shared}{D:Keyed→Prop}{L:Keyed→Keyed→Bool}{kd:SortKind}{st:SortSt}
end
section
variable {M:Model}{A:Around}{E:Value→Shared→Prop}{s:Shared}{D:Keyed→Prop}{L:Keyed→Keyed→Bool}{kd:SortKind}{st:SortSt}
end
section
variable {prog:Program}{w:World}{A:Around}{E:Value→Shared→Prop}{s:Shared}{κ:KeyKind}
end
section
variable {prog:Program}{w:World}{A:Around}{E:Value→Shared→Prop}{s:Shared}{κ:KeyKind}
end
section
variable {prog:Program}{w:World}{A:Around}{E:Value→Shared→Prop}{s:Shared}
end
section
variable {X:Cx}{e:Expr}{ta:TA}{p p2 pos kpos:Pos}
end
def keyT (h:Heap):Value→Int×List Nat
 | .ref a=>match h.get? a with
  | some o=>match o.data with
   | .seq xs _=>match xs.toList with
    | [.int n _,.str w _]=>(n,w.cps.toList)
    | _=>(0,[])
   | _=>(0,[])
  | none=>(0,[])
 | _=>(0,[])
section
variable {prog:Program}{w:World}{A:Around}{E:Value→Shared→Prop}{s:Shared}
end
section
variable {prog:Program}{w:World}{A:Around}{E:Value→Shared→Prop}{s:Shared}
end
section
variable {prog:Program}{w:World}{A:Around}{E:Value→Shared→Prop}{s:Shared}
end
section
variable {prog:Program}{w:World}{A:Around}{E:Value→Shared→Prop}{s s0:Shared}
end
section
variable {X:Cx}{k:Nat}{f C:Addr}{fd:FuncData}{ps:List Str}{sp:Sp}{dvs:List V}{ds:List Value}{x m:Str}{p pos apos:Pos}{e o:Expr}{es:List Expr}{ta:TE}{t:TA}
def tMethx (C:Addr)(m:Str)(sp:Sp)(dvs:List V)(ta:TE)(t:TA):TX:=fun σ H Q E=>ta σ H fun x H1=>∃a dx fs,x=.ref a∧H1 a=some (.ins C dx fs)∧fs.lookup m=none∧t σ H1 fun vs H2=>sp (x::(vs++dvs)) H2 Q E
def tMakex (C:Addr)(sp:Sp)(dvs:List V)(t:TA):TX:=fun σ H Q E=>t σ H fun vs H1=>∀x dx,H1 x=none→H1 dx=none→dx≠x→sp (.ref x::(vs++dvs)) (upd (upd H1 dx (.own x)) x (.ins C dx [])) (fun v H2=>v=.non∧Q (.ref x) H2) E
theorem psx_if {c:Expr}{a b:List Stmt}{tc:TT}{t u:TSx}(hc:PT X.nox c tc)(ha:PSsx X a t)(hb:PSsx X b u):PSx X (.If c a b pos) (sIfx tc t u):=by
 intro pins s σ H D Ex I h
 refine wpAny_If (wpAny_mono (hc pins s σ H _ (I.wish _) h) (fun d s1 ⟨H1,I1,q1⟩=>?_) fun _ _ z=>False.elim z)
 cases d with
 | true=>exact ha pins s1 σ H1 D Ex I1.unwish q1
 | false=>exact hb pins s1 σ H1 D Ex I1.unwish q1
end
def EN:XK:=fun _ _ _=>False
theorem pass_no {X:Cx}:Passes (CXr X.prog X.w) X EN:=fun _ _ _ _ _ _ _ ⟨_,_,_,_,_,_,_,_,_,_,_,_,_,_,_,z⟩=>z.elim
section
variable {X:Cx}
def sConsx (t u:TSx):TSx:=fun D Ex σ H=>t { D with nx:=fun σ1 H1=>u D Ex σ1 H1 } Ex σ H
end
section
variable {X:Cx}{pins:List (Addr×Obj)}{σ:St}{H:Hp}{s:Shared}
end
def Itd (o:Obj)(kvs:List (Key×V))(a:Addr):It:=
 ⟨fun i H=>H a=some (.frz o (.dK kvs))∧i<kvs.length,fun i H x H'=>H'=H∧∃p,kvs[i]?=some p∧x=kV p.1,fun i H=>H a=some (.frz o (.dK kvs))∧kvs.length≤i⟩
section
variable {X:Cx}{tg:Expr}
def iDict (td:TE):TI:=fun σ H R=>td σ H fun x H1=>∃a kvs,x=.ref a∧H1 a=some (.dK kvs)∧∀o,R (Itd o kvs a) (upd H1 a (.frz o (.dK kvs)))
def Thw (a:Addr)(P:Hp→Prop)(H':Hp):Prop:=∃o kvs,H' a=some (.frz o (.dK kvs))∧P (upd H' a (.dK kvs))
def thD (a:Addr)(D:Ends):Ends:={ nx:=fun σ H=>Thw a (D.nx σ) H,rt:=fun v H=>Thw a (D.rt v) H,bk:=fun σ H=>Thw a (D.bk σ) H,ct:=fun σ H=>Thw a (D.ct σ) H }
def sThaw (ts:TS):TS:=fun D σ H=>∃a kvs,H a=some (.dK kvs)∧ts (thD a D) σ H
end
section
variable {g:TG}{tb:TS}{D:Ends}{σ:St}{H:Hp}{o:Obj}{kvs:List (Key×V)}{a:Addr}
end
section
variable {prog:Program}{w:World}{A:Around}{E:Value→Shared→Prop}{s:Shared}
end
def kTx (l:List Nat):Key:=.inr ⟨l.toArray⟩
section
variable {X:Cx}
end
end L2
namespace L2
open PySem PySem.Spec PyProof.Rows
open PySem.W (Frag)
def AtW (l w:List Nat)(i:Nat):Prop:=i+w.length≤l.length∧(l.drop i).take w.length=w
def Inf (w l:List Nat):Prop:=∃i,AtW l w i
theorem subAt_iff (l w:List Nat)(i:Nat):StrLaws.At ⟨l.toArray⟩ ⟨w.toArray⟩ (⟨l.toArray⟩:Str).length i↔AtW l w i:=by
 have e1:(⟨l.toArray⟩:Str).length=l.length:=txlen l
 have e2:(⟨w.toArray⟩:Str).length=w.length:=txlen w
 unfold StrLaws.At AtW Builtin.Str.subAt
 rw[e1,e2]
 refine and_congr_right fun h=>?_
 have e3:l.toArray.extract i (i+w.length)=((l.drop i).take w.length).toArray:=by
  apply Array.ext'
  simp only[List.extract_toArray,List.extract_eq_take_drop]
  have:i+w.length-i=w.length:=by omega
  rw[this]
 show (l.toArray.extract i (i+w.length) == w.toArray)=true↔_
 rw[e3,beq_iff_eq]
 exact⟨fun z=>by simpa using congrArg Array.toList z,fun z=>by rw[z]⟩
theorem same_upd3' {H H2:Hp}{e:Addr}{o':HO}(h:H e=none)(s:Same H H2):Same H (upd H2 e o'):=fun b u hb=>by
 have:b≠e:=fun z=>by rw[z,h]at hb;cases hb
 rw[upd_ne this];exact s _ _ hb
section
variable {tt:TT}{te:TE}{Q:VK}{τ0:St}{H:Hp}{K:Frag}{a:Addr}{xs:List V}
theorem CompRun.listL (b:Nat→Bool)(f:Nat→V)(hz:xs.length≤100000)(hx:SqL K H a xs)
  (ht:∀i H' Q' (h:i<xs.length),Same H H'→(∀H'',Same H' H''→Q' (b i) H'')→tt (τ0.set 0 (some (xs.getD i .non))) H' Q')
  (he:∀i H' Q' (h:i<xs.length),b i=true→Same H H'→(∀H'',Same H' H''→Q' (f i) H'')→te (τ0.set 0 (some (xs.getD i .non))) H' Q')
  (hQ:∀p H',Same H H'→H p=none→H' p=some (.lst (((List.range xs.length).filter b).map f))→Q (.ref p) H'):CompRun (Itl K a) τ0 (gName 0) tt te H Q:=by
 intro acc ha
 refine⟨fun i m τ H2=>i≤xs.length∧m=xs.length-i∧(∀w:Option V,τ.set 0 w=τ0.set 0 w)∧Same H H2∧H2 acc=some (.lst (((List.range i).filter b).map f)),⟨xs.length,Nat.zero_le _,rfl,fun _=>rfl,same_upd ha,upd_same⟩,?_⟩
 rintro i m τ H2 ⟨hi,rfl,hτ,hs,hacc⟩
 by_cases hlt:i<xs.length
 ·refine .inr ⟨⟨xs,xs[i],hs.seq hx,by simp[hlt]⟩,fun τ' H'=>(∀w:Option V,τ'.set 0 w=τ0.set 0 w)∧Same H H'∧H' acc=some (.lst (((List.range (i+1)).filter b).map f)),fun τ' H' q=>⟨xs.length-(i+1),by omega,hlt,rfl,q⟩,fun x H3 y=>?_⟩
  obtain⟨rfl,y⟩:=y
  have ex:x=xs.getD i .non:=by rw[List.getD_eq_getElem?_getD,y xs (hs.seq hx)];rfl
  subst ex
  show tt (τ.set 0 (some (xs.getD i .non))) _ _
  rw[hτ]
  have hτ':∀w:Option V,(τ0.set 0 (some (xs.getD i .non))).set 0 w=τ0.set 0 w:=fun w=>by rw[List.set_set]
  refine ht i _ _ hlt hs fun H4 s4=>?_
  cases hb:b i with
  | false=>
   rw[if_neg Bool.false_ne_true]
   refine⟨hτ',hs.trans s4,?_⟩
   rw[s4 _ _ hacc,List.range_succ,List.filter_append]
   simp[hb]
  | true=>
   rw[if_pos rfl]
   refine he i _ _ hlt hb (hs.trans s4) fun H5 s5=>⟨_,s5 _ _ (s4 _ _ hacc),?_,hτ',same_upd3' ha ((hs.trans s4).trans s5),?_⟩
   ·rw[List.length_map]
    have:=List.length_filter_le b (List.range i)
    rw[List.length_range]at this
    rw[sizeLine_eq];omega
   ·rw[upd_same,List.range_succ,List.filter_append]
    simp[hb]
 ·have e:i=xs.length:=by omega
  subst e
  exact .inl ⟨⟨xs,hs.seq hx,Nat.le_refl _⟩,hQ acc H2 hs ha hacc⟩
end
def infB (w l:List Nat):Bool:=(List.range (l.length+1)).any fun i=>decide (i+w.length≤l.length)&&decide ((l.drop i).take w.length=w)
theorem infB_iff {w l:List Nat}:infB w l=true↔Inf w l:=by
 unfold infB Inf AtW
 rw[List.any_eq_true]
 constructor
 ·rintro⟨i,_,h⟩
  rw[Bool.and_eq_true,decide_eq_true_eq,decide_eq_true_eq]at h
  exact⟨i,h⟩
 ·rintro⟨i,h1,h2⟩
  refine⟨i,List.mem_range.mpr (by omega),?_⟩
  rw[Bool.and_eq_true,decide_eq_true_eq,decide_eq_true_eq]
  exact⟨h1,h2⟩
theorem found_tx (w l:List Nat):(!(Builtin.Str.occurrences ⟨l.toArray⟩ ⟨w.toArray⟩ 0 (⟨l.toArray⟩:Str).length 1).isEmpty)=infB w l:=by
 rw[Bool.eq_iff_iff,StrLaws.found_iff,infB_iff]
 exact⟨fun ⟨i,h⟩=>⟨i,(subAt_iff l w i).mp h⟩,fun ⟨i,h⟩=>⟨i,(subAt_iff l w i).mpr h⟩⟩
section
variable {X:Cx}
theorem op_in_tx:OpR X (compareOp .In) (fun x y H Q=>∃w l,x=tx w∧y=tx l∧Q (.bl (infB w l)) H):=by
 rintro pins s σ H x y v u Q I rx ry ⟨w,l,rfl,rfl,q⟩
 refine op_in_str pins s σ H _ _ v u Q I rx ry ⟨_,_,rfl,rfl,?_⟩
 rw[found_tx];exact q
theorem upper_one:∀k,k<26→Unicode.upperOf (97+k)=[65+k]:=by decide +kernel
theorem flat_single {α β:Type}(g:α→β):∀l:List α,(l.map fun x=>[g x]).flatten=l.map g
 | []=>rfl
 | x::l=>by rw[List.map_cons,List.flatten_cons,flat_single g l];rfl
theorem upper_tx {l:List Nat}(h:∀c∈l,97≤c∧c≤122):Txt.upper ⟨l.toArray⟩=⟨(l.map (· - 32)).toArray⟩:=by
 unfold Txt.upper placed
 have e:(l.toArray.mapIdx fun i c=>(Unicode.upperOf c).toArray)=(l.map fun c=>#[c-32]).toArray:=by
  apply Array.ext'
  rw[Array.toList_mapIdx]
  apply List.ext_getElem (by simp)
  intro i h1 h2
  have hi:i<l.length:=by simpa using h2
  obtain⟨b1,b2⟩:=h l[i] (List.getElem_mem hi)
  have:=upper_one (l[i]-97) (by omega)
  have e1:97+(l[i]-97)=l[i]:=by omega
  have e2:65+(l[i]-97)=l[i]-32:=by omega
  rw[e1,e2]at this
  simp[this]
 show (⟨(l.toArray.mapIdx fun i c=>(Unicode.upperOf c).toArray).flatten⟩:Str)=_
 rw[e]
 congr 1
 apply Array.ext'
 rw[Array.toList_flatten]
 have:((l.map fun c=>#[c-32]).toArray.toList.map Array.toList)=l.map fun c=>[c-32]:=by simp
 simp only[List.map_map]
 rw[show (l.map (Array.toList ∘ fun c=>#[c-32]))=l.map fun c=>[c-32] from rfl,flat_single]
theorem mt_upperS:MtM X "str.upper" (fun x vs H Q=>∃l,x=tx l∧vs=[]∧l.length≤1000∧(∀c∈l,97≤c∧c≤122)∧Q (tx (l.map (· - 32))) H):=by
 rintro pins s σ H x vs v us Q I rx rv ⟨l,rfl,rfl,hz,hc,q⟩
 obtain⟨t,rfl⟩:=rx
 cases rv
 have hfit:(⟨l.toArray⟩:Str).length≤5592405:=by rw[txlen];omega
 refine PyProof.Rows.SCL.upper hfit fun hle=>?_
 rw[upper_tx hc]
 exact⟨tx (l.map (· - 32)),H,I.tok _,⟨s.toks,rfl⟩,q⟩
end
end L2
namespace L2
open PySem PySem.Spec PyProof.Rows
section
variable {X:Cx}
theorem call_anyL (hc:X.calm=true):CallR X (.builtin "any") (fun xs H Q=>∃(a:Addr) (bs:List Bool),xs=[.ref a]∧H a=some (.lst (bs.map V.bl))∧Q (.bl (bs.any id)) H):=by
 rintro pins s σ H xs us Q I r ⟨a,bs,rfl,ha,q⟩
 obtain⟨u,rfl,ru⟩:=r.one
 cases ru
 obtain⟨_,its,n,r',hlen,e⟩:=I.lstM ha
 have hl:s.heap.IsList a its.toArray:=PySem.IsL.isList e
 have hne:a≠s.heap.objs.size:=Nat.ne_of_lt (Heap.lt_size e)
 refine call_any_walkS (wpAny_pyIter_list hl ?_)
 have hL:its.toArray.size=bs.length:=by rw[List.size_toArray,←r'.length,List.length_map]
 have W:=(Walks.list (prog:=X.prog) (w:=X.w) (A:=X.A.in1) (by simpa using I.ok.hd hc) s.heap.objs.size a hne its.toArray).toS
 refine⟨s.heap.objs.size,_,_,_,_,_,_,fun i=>bs.getD i true,rfl,W,⟨⟨_,Heap.get?_push_size _ rfl,rfl,rfl⟩,hl.push _⟩,?_,fun s' hm=>?_⟩
 ·intro i v s Q E hv hQ
  have e':its[i]?=some v:=by simpa using hv
  obtain⟨x,hx,rx⟩:=vals_at r' e'
  rw[List.getElem?_map]at hx
  cases hb:bs[i]? with
  | none=>rw[hb]at hx;cases hx
  | some b=>
   rw[hb]at hx
   cases hx
   obtain rfl:v=Value.bool b:=rx
   have:bs.getD i true=b:=by rw[List.getD_eq_getElem?_getD,hb];rfl
   have hQ':Q (bs.getD i true) s:=hQ
   rw[this]at hQ'
   exact wpAny_truthy_bool hQ'
 ·have ea:(List.range its.toArray.size).any (fun i=>bs.getD i true)=bs.any id:=by
   rw[hL]
   rw[Bool.eq_iff_iff,List.any_eq_true,List.any_eq_true]
   constructor
   ·rintro⟨i,hi,h⟩
    have hi:=List.mem_range.mp hi
    rw[List.getD_eq_getElem?_getD,List.getElem?_eq_getElem hi]at h
    exact⟨_,List.getElem_mem hi,h⟩
   ·rintro⟨b,hb,h⟩
    obtain⟨i,hi,rfl⟩:=List.getElem_of_mem hb
    refine⟨i,List.mem_range.mpr hi,?_⟩
    rw[List.getD_eq_getElem?_getD,List.getElem?_eq_getElem hi]
    exact h
  rw[ea]
  have I2:Inv X pins σ H s':=I.call' (ch:=[]) hm.os (Un.kept fun b o q=>hm.heap b o (fun z=>?_) (Heap.get?_push_of_some _ q)) (I.hok.kept fun b o q=>hm.heap b o (fun z=>?_) (Heap.get?_push_of_some _ q)) (by rw[show s'.gens=s.gens from hm.gens];exact I.bare) (fun b hb=>by cases hb)
  ·exact⟨.bl _,H,I2,rfl,q⟩
  ·have z:b=s.heap.objs.size:=by simpa using z
   rw[z]at q;exact absurd (Heap.lt_size q) (Nat.lt_irrefl _)
  ·have z:b=s.heap.objs.size:=by simpa using z
   rw[z]at q;exact absurd (Heap.lt_size q) (Nat.lt_irrefl _)
end
section
variable {X:Cx}{pins:List (Addr×Obj)}{σ:St}{H:Hp}{s:Shared}{a b:Addr}{kvs more:List (Key×V)}{A:Around}{E:Value→Shared→Prop}
def tDUpd (td ty:TE):TE:=fun σ H Q=>td σ H fun x H1=>∃a,x=.ref a∧IsD H1 a∧ty σ H1 fun y H2=>∃b kvs more,y=.ref b∧H2 a=some (.dK kvs)∧H2 b=some (.dK more)∧a≠b∧kvs.length+more.length≤sizeLine∧Q .non (upd H2 a (.dK (mergeK kvs more)))
end
section
variable {prog:Program}{w:World}{A:Around}{E:Value→Shared→Prop}{s:Shared}{l I S:Addr}{ns:List Int}{vs:List Value}{R:Result→Shared→Prop}{Q:Value→Shared→Prop}{d:Value}
end
section
variable {X:Cx}{e:Expr}{ta:TA}{p p2 pos kpos:Pos}
def rMaxD (n:Int):List V→Hp→VK→Prop:=fun xs H Q=>∃a ns,xs=[.ref a]∧H a=some (.lst (ns.map V.int))∧∀r,(ns=[]→r=n)→(ns≠[]→r∈ns)→(∀x∈ns,x≤r)→Q (.int r) H
end
section
variable {prog:Program}{w:World}{A:Around}{s:Shared}
end
section
variable {prog:Program}{w:World}{A:Around}{E:Value→Shared→Prop}{s:Shared}
end
end L2
namespace L2
open PySem PySem.Spec PyProof.Rows PySem.W
def isTbl:HO→Bool
 | .tbl _=>true
 | _=>false
def SameL (H H':Hp):Prop:=∀b o,H b=some o→isTbl o=false→H' b=some o
theorem Same.l {H H':Hp}(s:Same H H'):SameL H H':=fun b o e _=>s b o e
structure LamEnv (base:Heap)(mg:Str→Option Value)(c P:Addr):Prop where
 hd:CodeHd base c P
 bm:base.BuiltinsAt mg P
section
variable {X:Cx}{pins:List (Addr×Obj)}{σ:St}{H:Hp}{s:Shared}
end
section
variable {X:Cx}{e:Expr}{ta:TA}{p pos kpos lpos p1 p2 p3 p4 p5:Pos}{k kk:Nat}{c P:Addr}{params:Arguments}{scope:Scope}{x q:Str}
end
def isTab (o:Obj):Bool:=match o.cls,o.data with
 | .none,.fields _=>true
 | _,_=>false
def noTab (K:Frag):Bool:=K.all fun p=>!isTab p.2
theorem noTab_lookup {K:Frag}(h:noTab K=true){b:Addr}{o:Obj}(e:K.lookup b=some o):isTab o=false:=by
 unfold noTab at h
 rw[List.all_eq_true]at h
 have:∀(l:List (Addr×Obj)),l.lookup b=some o→(b,o)∈l:=fun l=>by
  induction l with
  | nil=>intro e;cases e
  | cons q r ih=>
   intro e
   obtain⟨b',o'⟩:=q
   rw[List.lookup_cons]at e
   by_cases z:b=b'
   ·subst z
    simp at e
    subst e
    exact List.mem_cons_self
   ·have z':(b == b')=false:=by simpa using z
    rw[z']at e
    exact List.mem_cons_of_mem _ (ih e)
 have:=h _ (this K e)
 simpa using this
structure TabOf (mg:Str→Option Value)(h:Heap)(n:Str)(c P:Addr):Prop where
 fn:∃a o fd,mg n=some (.ref a)∧h.get? a=some o∧o.data=.func fd∧fd.code=.ref c
 code:h.IsCode c P #[]
 tab:h.TableAt c P #[]
theorem law_callT {P:Program}{w:World}{K:PySem.W.Frag}{mg mb:Str→Option Value}{CX:CXT}{k:Nat}{fa a:Addr}{fd:FuncData}{x:Str}{sp:Sp}{s₁:Shared}{vs:List Value}{ns:List Int}{nms:List Str}{tb:Str→Addr×Addr}
  (KX:K.In s₁.heap) (hns:s₁.heap.Ns mainGlobals mg) (hb:s₁.heap.Ns builtinsNs mb) (hbb:∀x:Str,x≠"__name__"→mb x=bootBuiltins x) (hlim:s₁.heap.NoLimit) (hg:s₁.gens=#[])
  (ha:s₁.heap.get? a=some { cls:=.type "list",data:=.seq vs.toArray }) (hi:IntsAre vs ns) (hl:ns.length≤sizeLine) (hr:Room k callerA)
  (hT:∀n∈nms,TabOf mg s₁.heap n (tb n).1 (tb n).2) (hKt:noTab K=true) (hbm:∃bm ob,mg "__builtins__"=some (.ref bm)∧bm≠builtinsNs∧s₁.heap.get? bm=some ob∧ob.cls=.type "module"∧ob.dict=some builtinsNs∧ob.data=.plain)
  (F:∀base:Heap,K.In base→base.Ns mainGlobals mg→(∀n∈nms,LamEnv base mg (tb n).1 (tb n).2)→FnOk P w K mg base CX k fa fd [x] sp) (hbind:∀(s:Shared) (u:Value),BindsTo s fd ⟨[u],[]⟩ [(x,u)])
  (hsp:∀H:Hp,(∀n∈nms,H (tb n).2=some (.tbl #[]))→SqL K H a (ns.map V.int)→sp [.ref a] H (fun v _=>v=.bl true) fun _ _ _=>False)
  (hCX:∀H e s',CX [] H s₁ (fun _ _ _=>False) e s'→False):
  codeAny (model P w) callerA (.call (.ref fa) ⟨[.ref a],[]⟩) (fun r s'=>r=.ok (.ret (.bool true))∧OldK s₁.heap s'.heap∧s'.os=s₁.os∧AllBare s'.gens) s₁:=by
 have rv:=vals_ints hi
 have lenV:=hi.length
 have hta:∀n∈nms,s₁.heap.get? (tb n).2=some (tabObj #[]):=fun n hn=>(hT n hn).tab.2
 have aP:∀n∈nms,(tb n).2≠a:=fun n hn z=>by
  have e:=hta n hn
  rw[z,ha]at e
  have:=congrArg Obj.cls (Option.some.inj e)
  exact absurd (show Value.type "list"=Value.none from this) (by simp)
 let isP:Addr→Prop:=fun b=>∃n∈nms,(tb n).2=b
 have core:∀H:Hp,SqL K H a (ns.map V.int)→HOk P w H s₁.heap→(∀b,H b≠none→(b=a∧∃o xs,H b=some (.frz o (.lst xs)))∨(isP b∧H b=some (.tbl #[])))→(∀b,isP b→H b=some (.tbl #[]))→(H a≠none→K.lookup a=none) →
   codeAny (model P w) callerA (.call (.ref fa) ⟨[.ref a],[]⟩) (fun r s'=>r=.ok (.ret (.bool true))∧OldK s₁.heap s'.heap∧s'.os=s₁.os∧AllBare s'.gens) s₁:=by
  intro H hS hok hA hPt hK
  have base_of:∀ {b:Addr} {o:Obj},s₁.heap.get? b=some o→H b=none→(hidT s₁.heap H).get? b=some o:=fun e n=>hidT_get e n
  have noT:∀ {b:Addr} {o:Obj},s₁.heap.get? b=some o→o≠tabObj #[]→o.cls≠.type "list"→H b=none:=fun {b o} e n1 n2=>by
   cases q:H b with
   | none=>rfl
   | some u=>
    rcases hA b (by rw[q];simp) with⟨e',_⟩|⟨⟨n,hn,e'⟩,_⟩
    ·subst e'
     rw[ha]at e;cases e
     exact absurd rfl n2
    ·subst e'
     rw[hta n hn]at e;cases e
     exact absurd rfl n1
  have noA:∀ {b:Addr} {o:Obj} {es:Array DictEntry} {ep:Nat},s₁.heap.get? b=some o→o.data=.dict es ep→H b=none:=fun {b o es ep} e d=>by
   cases q:H b with
   | none=>rfl
   | some u=>
    rcases hA b (by rw[q];simp) with⟨e',_⟩|⟨⟨n,hn,e'⟩,_⟩
    ·subst e'
     rw[ha]at e;cases e
     have d':Data.seq vs.toArray _=Data.dict es ep:=d
     cases d'
    ·subst e'
     rw[hta n hn]at e;cases e
     cases d
  have nsK:∀ {b:Addr} {m:Str→Option Value},s₁.heap.Ns b m→(hidT s₁.heap H).Ns b m:=fun {b m} ⟨o,es,ep,e,d,r⟩=>⟨o,es,ep,base_of e (noA e d),d,r⟩
  have hKb:K.In (hidT s₁.heap H):=fun b o e=>base_of (KX b o e) (by
   cases q:H b with
   | none=>rfl
   | some u=>
    rcases hA b (by rw[q];simp) with⟨e',_⟩|⟨⟨n,hn,e'⟩,_⟩
    ·subst e'
     rw[hK (by rw[q];simp)]at e;cases e
    ·subst e'
     have e1:=KX _ _ e
     rw[hta n hn]at e1
     have e2:=noTab_lookup hKt e
     rw[←Option.some.inj e1]at e2
     cases e2)
  have hM:Mod K mg (hidT s₁.heap H):=⟨hKb,nsK hns,⟨mb,nsK hb,hbb⟩,let ⟨mc,h1,h2⟩:=hlim;⟨mc,nsK h1,h2⟩⟩
  have e0:Env0 P w K mg (hidT s₁.heap H) callerA [] s₁ H:=⟨rfl,hM,fun b o e=>of_hidT e,Nat.le_of_eq (hidT_size _ _),trivial,fun b hb=>absurd (show b∈([]:List Addr) from hb) (by simp),hok,.of_eq hg⟩
  have hL:∀n∈nms,LamEnv (hidT s₁.heap H) mg (tb n).1 (tb n).2:=fun n hn=>by
   obtain⟨bm,ob,b1,b2,b3,b4,b5,b6⟩:=hbm
   obtain⟨oc,vc,file,tf,flags,tg,inF,text,tt,c1,c2,c3,r⟩:=CodeHd.of (hT n hn).code (hT n hn).tab
   refine⟨⟨oc,vc,file,tf,flags,tg,inF,text,tt,base_of c1 (noT c1 (fun z=>by rw[z]at c2;cases c2) (fun z=>by rw[c2]at z;exact absurd z (by decide))),c2,c3,r⟩,bm,ob,b1,b2,fun z=>?_,fun z=>?_,base_of b3 (noT b3 (fun z=>by rw[z]at b4;cases b4) (fun z=>by rw[b4]at z;exact absurd z (by decide))),b4,b5,b6⟩
   ·obtain⟨o,es,ep,e,d,_⟩:=hns
    rw[←z,b3]at e;cases e
    rw[b6]at d;cases d
   ·rw[z,hta n hn]at b3;cases b3
    cases b4
  refine codeAny_mono ((F _ hKb (nsK hns) hL).run callerA [] s₁ H ⟨[.ref a],[]⟩ [.ref a] [.ref a] _ _ hr e0 (hbind s₁ (.ref a)) (.cons rfl .nil) (hsp H (fun n hn=>hPt _ ⟨n,hn,rfl⟩) hS)) fun r s' h=>?_
  cases r with
  | error e=>exact(hCX H e s' h).elim
  | ok fl=>
   cases fl with
   | next=>exact False.elim h
   | brk=>exact False.elim h
   | cont=>exact False.elim h
   | ret u=>
    obtain⟨v,H',os,bare,un,hok',r',q⟩:=h
    have q':v=.bl true:=q
    subst q'
    obtain rfl:u=Value.bool true:=r'
    refine⟨rfl,⟨fun b o e=>?_,fun b o e=>un.there b o e (by simp)⟩,os,bare⟩
    cases q:H b with
    | none=>exact .inl (un.keep b o e q (by intro z;exact absurd (show b∈([]:List Addr) from z) (by simp)) (by simp))
    | some u=>
     rcases hA b (by rw[q];simp) with⟨_,ob,xs,z⟩|⟨⟨n,hn,e'⟩,z⟩
     ·have z2:=un.frzs b ob _ z
      obtain⟨e1,_⟩:=hok b _ z
      obtain⟨e2,_⟩:=hok' b _ z2
      rw[e]at e1;cases e1
      exact .inl e2
     ·obtain⟨more,z2⟩:=un.tbls b _ z
      have e1:s₁.heap.get? b=some (tabObj #[]):=hok b _ z
      have e2:s'.heap.get? b=some (tabObj (#[]++more)):=hok' b _ z2
      rw[e]at e1;cases e1
      exact .inr (.inl ⟨by rw[←e'];exact(hT n hn).tab.isCodeTable,rfl,#[],more,rfl,e2⟩)
 cases hk:K.lookup a with
 | some o=>
  have e:=KX a o hk
  rw[ha]at e
  cases e
  haveI:DecidablePred isP:=fun _=>Classical.propDecidable _
  refine core (fun b=>if isP b then some (.tbl #[]) else none) (.inr ⟨_,vs.toArray,_,hk,rfl,rfl,rfl,by rw[List.size_toArray,lenV];exact hl,by simpa using rv⟩) (fun b u z=>?_) (fun b z=>?_) (fun b hb=>if_pos hb) fun z=>?_
  ·by_cases hb:isP b
   ·have z':=(if_pos hb).symm.trans z
    cases z'
    obtain⟨n,hn,rfl⟩:=hb
    exact hta n hn
   ·have z':=(if_neg hb).symm.trans z
    cases z'
  ·by_cases hb:isP b
   ·exact .inr ⟨hb,if_pos hb⟩
   ·exact absurd (if_neg hb) z
  ·have:¬isP a:=fun ⟨n,hn,e⟩=>aP n hn e
   exact absurd (if_neg this) z
 | none=>
  haveI:DecidablePred isP:=fun _=>Classical.propDecidable _
  refine core (fun b=>if b=a then some (.frz { cls:=.type "list",data:=.seq vs.toArray } (.lst (ns.map V.int))) else if isP b then some (.tbl #[]) else none) (.inl (.inr ⟨{ cls:=.type "list",data:=.seq vs.toArray },if_pos rfl⟩)) (fun b u z=>?_) (fun b z=>?_) (fun b hb=>?_) fun _=>hk
  ·by_cases hb:b=a
   ·have z':=(if_pos hb).symm.trans z
    cases z'
    subst hb
    exact⟨ha,by rw[List.length_map];exact hl,vs,_,rv,ha⟩
   ·have z':=(if_neg hb).symm.trans z
    by_cases hp:isP b
    ·have z2:=(if_pos hp).symm.trans z'
     cases z2
     obtain⟨n,hn,rfl⟩:=hp
     exact hta n hn
    ·have z2:=(if_neg hp).symm.trans z'
     cases z2
  ·by_cases hb:b=a
   ·exact .inl ⟨hb,_,_,if_pos hb⟩
   ·by_cases hp:isP b
    ·exact .inr ⟨hp,by rw[if_neg hb,if_pos hp]⟩
    ·exact absurd (by rw[if_neg hb,if_neg hp]) z
  ·have nb:b≠a:=by obtain⟨n,hn,rfl⟩:=hb;exact aP n hn
   rw[if_neg nb,if_pos hb]
theorem walk_ofT {l:PySem.W.OpenLaw}{n k:Nat}{q:Program}{loose:List Str}{XP:(Str→Option Value)→Heap→Prop}{YP:World→Heap→Prop}{d:DefRec}{K:Params→PySem.W.Frag}{CX:CXT}{sp:PySem.W.Frag→(Str→Addr×Addr)→Sp}{x:Str}(nms:List Str)
  (hn:l.most=some n) (hn2:n≤sizeLine) (hdf:d.params.defaults=[]) (hr:Room k callerA)
  (hY:∀(w:World) (h:Heap),YP w h→(K w.params).In h) (hKt:∀P:Params,noTab (K P)=true) (hnm:(nms.all fun n=>(recsOf q).any fun e=>e.name == n)=true)
  (F:∀(w:World) (mg:Str→Option Value) (fa:Addr) (h:Heap) (tb:Str→Addr×Addr),(K w.params).In h→h.Ns mainGlobals mg→mg d.name=some (.ref fa)→(∀n∈nms,TabOf mg h n (tb n).1 (tb n).2) →
   ∃fd:FuncData,(∀(s:Shared) (u:Value),BindsTo s fd ⟨[u],[]⟩ [(x,u)]) ∧
    ∀base:Heap,(K w.params).In base→base.Ns mainGlobals mg→(∀n∈nms,LamEnv base mg (tb n).1 (tb n).2)→FnOk l.prog w (K w.params) mg base CX k fa fd [x] (sp (K w.params) tb))
  (hsp:∀(K:PySem.W.Frag) (tb:Str→Addr×Addr) (H:Hp) (a:Addr) (ns:List Int),ns.length≤n→(∀n∈nms,H (tb n).2=some (.tbl #[]))→SqL K H a (ns.map V.int)→sp K tb [.ref a] H (fun v _=>v=.bl true) fun _ _ _=>False)
  (hCX:∀(H:Hp) (s:Shared) (e:Value) (s':Shared),CX [] H s (fun _ _ _=>False) e s'→False):
  PySem.W.WalkO q loose XP YP l.row.toRowW d [] (fun f vs=>PySem.call f vs):=by
 refine Att.attach_call hn hdf fun w s₀ s₁ mg mb fa o pm cd doc a vs ns G Y ho hd hcd hmg hobj hints hlen hg=>?_
 have KX:=hY w _ Y
 have ex:∀n:Str,∃cp:Addr×Addr,n∈nms→TabOf mg s₁.heap n cp.1 cp.2:=fun n=>by
  by_cases h:n∈nms
  ·rw[List.all_eq_true]at hnm
   have:=hnm n h
   rw[List.any_eq_true]at this
   obtain⟨e,he,en⟩:=this
   have en:e.name=n:=by simpa using en
   obtain⟨a',o',fd',c,P,h1,h2,h3,h4,h5,h6⟩:=G.T.tab e he
   exact⟨(c,P),fun _=>⟨⟨a',o',fd',by rw[←en];exact h1,h2,h3,h4⟩,h5,h6⟩⟩
  ·exact⟨(0,0),fun z=>absurd z h⟩
 obtain⟨tb,htb⟩:=Classical.skolem.mp ex
 obtain⟨fd,hb,hF⟩:=F w mg fa _ tb KX G.T.g hmg htb
 exact law_callT KX G.T.g G.T.b G.T.builtins G.T.nolimit hg hobj hints (Nat.le_trans hlen hn2) hr htb (hKt _) G.T.bmain hF hb (fun H hP hS=>hsp (K w.params) tb H a ns hlen hP hS) fun H e s'=>hCX H s₁ e s'
section
variable {P:Program}{w:World}{K:PySem.W.Frag}{mg:Str→Option Value}{base:Heap}
end
end L2
namespace L2
open PySem PySem.Spec PyProof.Rows
def noStar:Expr→Bool
 | .Starred ..=>false
 | _=>true
theorem star_no {e:Expr}{es:List Expr}{env:Env}(h:noStar e=true):starEach (e::es) env=(false,eval e env)::starEach es env:=by
 cases e<;>first | rfl | cases h
def dispG:Stmt→List Expr
 | .Return (some (.Subscript (.List es _) _ _)) _=>es
 | .Assign _ (.List es _) _=>es
 | _=>[]
def dispP (es:List Expr):Stmt→Stmt
 | .Return (some (.Subscript (.List _ p) i q)) r=>.Return (some (.Subscript (.List es p) i q)) r
 | .Assign g (.List _ p) q=>.Assign g (.List es p) q
 | s=>s
structure PAz (X:Cx)(es:List Expr)(t:TA):Prop where
 h:PA X es t
theorem paz_nil {X:Cx}:PAz X [] tNil:=⟨pa_nil⟩
theorem paz_cons {X:Cx}{e:Expr}{es:List Expr}{te:TE}{t:TA}(ha:PE X e te)(hr:PAz X es t)(h:noStar e=true:=by rfl):PAz X (e::es) (tCons te t):=⟨pa_cons ha hr.h (star_no h)⟩
theorem pe_lstz {X:Cx}{es:List Expr}{t:TA}{pos:Pos}(ha:PAz X es t):PE X (.List es pos) (tLst t):=pe_lst ha.h
end L2
namespace L2
open PySem PySem.Spec PyProof.Rows
open PySem.W (Frag)
def rEqJ (K:Frag)(neg:Bool):R2:=fun x y H Q=>rEqS K neg x y H Q∨∃a b xs,x=.ref a∧y=.ref b∧SqL K H a xs∧SqL K H b xs∧(∀v∈xs,flatV v=true∨∃c,v=.ref c)∧Q (.bl (!neg)) H
theorem op_eqJ {X:Cx}{K:Frag}(hK:X.K=K)(hu:X.A.units+64<cLine):OpR X (compareOp .Eq) (rEqJ K false):=by
 intro pins s σ H x y v u Q I rx ry h
 rcases h with h | ⟨a,b,xs,rfl,rfl,h1,h2,hf,q⟩
 ·exact op_eqS hK hu pins s σ H x y v u Q I rx ry h
 ·subst hK
  cases rx;cases ry
  obtain⟨its,r,p,_⟩:=I.list h1
  obtain⟨its',r',p',_⟩:=I.list h2
  have hl:its.length=its'.length:=by rw[←Vals.length r,←Vals.length r']
  have key:∀j (j1:j<its.length) (j2:j<its'.length),SeqAt.EqAt X.A.in1 s its[j] its'[j] true:=fun j j1 j2=>by
   have hx:j<xs.length:=by rw[Vals.length r];exact j1
   obtain⟨u1,e1,r1⟩:=Vals.get r (List.getElem?_eq_getElem hx)
   obtain⟨u2,e2,r2⟩:=Vals.get r' (List.getElem?_eq_getElem hx)
   rw[List.getElem?_eq_getElem j1]at e1
   rw[List.getElem?_eq_getElem j2]at e2
   cases e1;cases e2
   rcases hf _ (List.getElem_mem hx) with f | ⟨c,ec⟩
   ·have:=eqAt_V (A:=X.A.in1) (s:=s) r1 r2 f f
    rw[eqV_self f]at this
    exact this
   ·rw[ec]at r1 r2
    have e1:its[j]=.ref c:=r1
    have e2:its'[j]=.ref c:=r2
    rw[e1,e2]
    exact SeqAt.EqAt.same _
  exact SeqAt.RcAt.lists (e:=fun _=>true) p.isList p'.isList (by simpa using hl) (by omega) (fun j j1 j2=>by simpa using key j (by simpa using j1) (by simpa using j2)) _ _ _ _ ⟨.bl true,H,I,(by show Value.bool _=Value.bool true;rw[List.all_eq_true.mpr (fun _ _=>rfl)]),q⟩
end L2
namespace L2
open PySem PySem.Spec PyProof.Rows
variable {X:Cx}
theorem op_notB:OpR X (compareOp .IsNot) (fun x y H Q=>∃b c,x=.bl b∧y=.bl c∧Q (.bl (!decide (b=c))) H):=by
 intro pins s σ H x y v u Q I rx ry h
 obtain⟨b,c,rfl,rfl,q⟩:=h
 cases rx
 cases ry
 refine wpAny_isNot_plain rfl (fin_bl I q ?_)
 cases b<;>cases c<;>rfl
end L2
namespace L2
def bf (m:List Nat):Nat→List (List Nat)
 | 0=>[]
 | i+1=>bf m i++m.map fun c=>(([]::bf m i).getD i [])++[c]
theorem bf_len (m:List Nat):∀i,(bf m i).length=m.length*i
 | 0=>rfl
 | i+1=>by rw[bf,List.length_append,List.length_map,bf_len m i];rw[Nat.mul_succ]
theorem bf_in {m:List Nat}(h:1≤m.length)(i:Nat):i<([]::bf m i).length:=by
 rw[List.length_cons,bf_len]
 have:=Nat.mul_le_mul_right i h
 omega
theorem bf_flat {m:List Nat}(h:1≤m.length):∀i,bf m i=(([]::bf m i).take i).flatMap fun w=>m.map fun c=>w++[c]
 | 0=>rfl
 | i+1=>by
  have hi:=bf_in h i
  have e:([]::bf m (i+1)).take (i+1)=([]::bf m i).take i++[([]::bf m i).getD i []]:=by
   show ([]::(bf m i++_)).take (i+1)=_
   rw[←List.cons_append,List.take_append_of_le_length (by omega),List.take_succ,List.getD_eq_getElem?_getD,List.getElem?_eq_getElem hi]
   rfl
  rw[e,List.flatMap_append,←bf_flat h i,List.flatMap_singleton]
  rfl
theorem bf_nodup {m:List Nat}(h:1≤m.length)(nd:m.Nodup):∀i,([]::bf m i).Nodup
 | 0=>by simp[bf]
 | i+1=>by
  have ih:=bf_nodup h nd i
  have hi:=bf_in h i
  show ([]::(bf m i++_)).Nodup
  rw[←List.cons_append,List.nodup_append]
  refine⟨ih,?_,fun x hx y hy e=>?_⟩
  ·refine List.Pairwise.map _ (fun a b hab e=>hab ?_) nd
   have z:=List.append_inj' e rfl
   exact(List.cons.inj z.2).1
  ·subst e
   obtain⟨g,hg⟩:∃g,g=([]::bf m i).getD i []:=⟨_,rfl⟩
   rw[←hg]at hy
   obtain⟨c,_,rfl⟩:=List.mem_map.mp hy
   rcases List.mem_cons.mp hx with z | z
   ·simp at z
   ·rw[bf_flat h i]at z
    obtain⟨w,hw,hz⟩:=List.mem_flatMap.mp z
    obtain⟨c',_,e⟩:=List.mem_map.mp hz
    have ew:=(List.append_inj' e rfl).1
    obtain⟨j,hj,e2⟩:=List.getElem_of_mem hw
    rw[List.getElem_take]at e2
    rw[List.length_take]at hj
    rw[hg,List.getD_eq_getElem?_getD,List.getElem?_eq_getElem hi]at ew
    exact List.pairwise_iff_getElem.mp ih j i (by omega) hi (by omega) (e2.trans ew)
theorem bf_mem {m:List Nat}:∀i,∀w∈[]::bf m i,∀x∈w,x∈m
 | 0,w,hw,x,hx=>by simp[bf]at hw;subst hw;cases hx
 | i+1,w,hw,x,hx=>by
  have ih:=bf_mem (m:=m) i
  have hw:w∈([]::bf m i)++m.map fun c=>(([]::bf m i).getD i [])++[c]:=hw
  rcases List.mem_append.mp hw with z | z
  ·exact ih w z x hx
  ·obtain⟨c,hc,rfl⟩:=List.mem_map.mp z
   rcases List.mem_append.mp hx with y | y
   ·rw[List.getD_eq_getElem?_getD]at y
    cases e:([]::bf m i)[i]? with
    | none=>rw[e]at y;cases y
    | some v=>rw[e]at y;exact ih v (List.mem_of_getElem? e) x y
   ·rw[List.mem_singleton.mp y];exact hc
theorem bf_size {m:List Nat}(h:1≤m.length):∀i (j:Nat) (w:List Nat),([]::bf m i)[j]?=some w→(m.length=1∧w.length≤j)∨(2≤m.length∧2 ^ w.length≤j+1)
 | 0,j,w,hw=>by
  have hj:j=0:=by have:=(List.getElem?_eq_some_iff.mp hw).1;simp[bf]at this;exact this
  subst hj
  cases hw
  by_cases c:m.length=1
  ·exact .inl ⟨c,Nat.le_refl _⟩
  ·exact .inr ⟨by omega,by decide⟩
 | i+1,j,w,hw=>by
  have ih:=bf_size h i
  have hi:=bf_in h i
  have hw:(([]::bf m i)++m.map fun c=>(([]::bf m i).getD i [])++[c])[j]?=some w:=hw
  by_cases hj:j<([]::bf m i).length
  ·rw[List.getElem?_append_left hj]at hw;exact ih j w hw
  ·rw[List.getElem?_append_right (by omega),List.getElem?_map]at hw
   obtain⟨c,_,rfl⟩:=Option.map_eq_some_iff.mp hw
   have e:([]::bf m i)[i]?=some (([]::bf m i).getD i []):=by rw[List.getD_eq_getElem?_getD,List.getElem?_eq_getElem hi];rfl
   have hl:([]::bf m i).length=m.length*i+1:=by rw[List.length_cons,bf_len]
   rw[List.length_append,List.length_singleton]
   rcases ih i _ e with⟨a,b⟩|⟨a,b⟩
   ·refine .inl ⟨a,?_⟩
    rw[a,Nat.one_mul]at hl
    omega
   ·refine .inr ⟨a,?_⟩
    have:=Nat.mul_le_mul_right i a
    rw[Nat.pow_succ]
    omega
theorem bf_ne {m:List Nat}(h:1≤m.length)(nd:m.Nodup){i:Nat}{w:List Nat}(hw:w∈bf m i):w≠[]:=fun e=>by
 subst e
 exact(List.nodup_cons.mp (bf_nodup h nd i)).1 hw
def bq (m:List Nat)(i:Nat):List (List Nat):=([]::bf m i).drop i
theorem bq_cons {m:List Nat}(h:1≤m.length)(i:Nat):bq m i=([]::bf m i).getD i []::([]::bf m i).drop (i+1):=by
 have hi:=bf_in h i
 unfold bq
 rw[List.drop_eq_getElem_cons hi,List.getD_eq_getElem?_getD,List.getElem?_eq_getElem hi]
 rfl
theorem bq_next {m:List Nat}(h:1≤m.length)(i:Nat):bq m (i+1)=([]::bf m i).drop (i+1)++m.map fun c=>(([]::bf m i).getD i [])++[c]:=by
 have hi:=bf_in h i
 unfold bq
 show ([]::(bf m i++_)).drop (i+1)=_
 rw[←List.cons_append,List.drop_append_of_le_length (by omega)]
end L2
namespace L2
open PySem PySem.Spec PyProof.Rows
open PySem.W (Frag)
section
variable {τ0:St}{tt:TT}{te:TE}{H:Hp}{Q:VK}
end
section
variable {X:Cx}{pos:Pos}
def tDispT1 (tk tv:TE):TE:=fun σ H Q=>∀p,H p=none→tk σ (upd H p (.dT [])) fun x H1=>tv σ H1 fun y H2=>∃b ks,x=.ref b∧H2 b=some (.tup (ks.map kV))∧H2 p=some (.dT [])∧Q (.ref p) (upd H2 p (.dT [(ks,y)]))
end
end L2
namespace L2
open PySem PySem.Spec PyProof.Rows
instance (l w:List Nat) (i:Nat):Decidable (AtW l w i):=by unfold AtW;infer_instance
def firstS (l:List Nat):List Nat:=(List.range (l.length+1)).filter fun i=>decide (∀j,j<i→¬AtW l (l.drop i) j)
def spotsAt (l w:List Nat):List Nat:=((firstS l).filter fun i=>decide (AtW l w i)).map (· + w.length)
section
variable {X:Cx}
def tLst1x (t:TX):TX:=fun σ H Q E=>t σ H (fun x H1=>1≤sizeLine∧NewL [x] H1 Q) E
end
def tHold (t:TS):TS:=t
theorem pss_hold {X:Cx}{st:List Stmt}{t:TS}(h:PSs X st t):PSs X st (tHold t):=h
theorem hold_of {t:TS}{D:Ends}{σ:St}{H:Hp}(h:t D σ H):tHold t D σ H:=h
end L2
set_option maxHeartbeats 400000000
namespace Pk61
open PySem L2
def top (i:Nat):Stmt:=PySem.Challenge.pw_lackword_k61_lists_let_by.main.body.getD i (.Pass ⟨0,0,0,0⟩)
abbrev s_has_only:Stmt:=top 14
abbrev s_is_kinds:Stmt:=top 15
abbrev s_is_word:Stmt:=top 16
abbrev s_need_kinds:Stmt:=top 17
abbrev s_need_list:Stmt:=top 22
abbrev s_avoids:Stmt:=top 23
abbrev s_strip_of:Stmt:=top 41
abbrev s_lcell:Stmt:=top 43
abbrev s_mixed:Stmt:=top 44
abbrev s_lkinds:Stmt:=top 45
abbrev s_drawn:Stmt:=top 46
abbrev s_lwords:Stmt:=top 47
abbrev s_many:Stmt:=top 48
abbrev s_thing:Stmt:=top 49
abbrev s_told:Stmt:=top 50
abbrev s_alike:Stmt:=top 51
abbrev s_spoiled:Stmt:=top 52
abbrev s_avoided:Stmt:=top 53
abbrev s_law:Stmt:=top 54
abbrev s_NoList_init:Stmt:=inClass (top 3) 0
structure Ad where
 c_LackError:Addr
 c_NoList:Addr
 c_NoKinds:Addr
 g_NoList_init:Addr
 e_NoList_init:FuncData
 f_has_only:Addr
 d_has_only:FuncData
 f_is_kinds:Addr
 d_is_kinds:FuncData
 f_is_word:Addr
 d_is_word:FuncData
 f_need_kinds:Addr
 d_need_kinds:FuncData
 f_need_list:Addr
 d_need_list:FuncData
 f_avoids:Addr
 d_avoids:FuncData
 f_strip_of:Addr
 d_strip_of:FuncData
 f_lcell:Addr
 d_lcell:FuncData
 f_mixed:Addr
 d_mixed:FuncData
 f_lkinds:Addr
 d_lkinds:FuncData
 f_drawn:Addr
 d_drawn:FuncData
 f_lwords:Addr
 d_lwords:FuncData
 f_many:Addr
 d_many:FuncData
 f_thing:Addr
 d_thing:FuncData
 f_told:Addr
 d_told:FuncData
 f_alike:Addr
 d_alike:FuncData
 f_spoiled:Addr
 d_spoiled:FuncData
 f_avoided:Addr
 d_avoided:FuncData
 f_law:Addr
 d_law:FuncData
structure Txt (K:PySem.W.Frag)(mg:Str→Option Value)(a:Ad):Prop where
 m_has_only:mg "has_only"=some (.ref a.f_has_only)
 f_has_only:Fun K "has_only" "has_only" s_has_only a.f_has_only a.d_has_only
 b_has_only:Binds K a.d_has_only ["text","letters"] []
 m_is_kinds:mg "is_kinds"=some (.ref a.f_is_kinds)
 f_is_kinds:Fun K "is_kinds" "is_kinds" s_is_kinds a.f_is_kinds a.d_is_kinds
 b_is_kinds:Binds K a.d_is_kinds ["thing"] []
 m_is_word:mg "is_word"=some (.ref a.f_is_word)
 f_is_word:Fun K "is_word" "is_word" s_is_word a.f_is_word a.d_is_word
 b_is_word:Binds K a.d_is_word ["thing","kinds","most"] []
 m_need_kinds:mg "need_kinds"=some (.ref a.f_need_kinds)
 f_need_kinds:Fun K "need_kinds" "need_kinds" s_need_kinds a.f_need_kinds a.d_need_kinds
 b_need_kinds:Binds K a.d_need_kinds ["thing"] []
 m_need_list:mg "need_list"=some (.ref a.f_need_list)
 f_need_list:Fun K "need_list" "need_list" s_need_list a.f_need_list a.d_need_list
 b_need_list:Binds K a.d_need_list ["words","kinds"] []
 m_avoids:mg "avoids"=some (.ref a.f_avoids)
 f_avoids:Fun K "avoids" "avoids" s_avoids a.f_avoids a.d_avoids
 b_avoids:Binds K a.d_avoids ["words","word"] []
 m_strip_of:mg "strip_of"=some (.ref a.f_strip_of)
 f_strip_of:Fun K "strip_of" "strip_of" s_strip_of a.f_strip_of a.d_strip_of
 b_strip_of:Binds K a.d_strip_of ["words","kinds"] []
 m_lcell:mg "_law_cell_at"=some (.ref a.f_lcell)
 f_lcell:Fun K "_law_cell_at" "_law_cell_at" s_lcell a.f_lcell a.d_lcell
 b_lcell:Binds K a.d_lcell ["_law_script","_law_k"] []
 m_mixed:mg "_law_mixed"=some (.ref a.f_mixed)
 f_mixed:Fun K "_law_mixed" "_law_mixed" s_mixed a.f_mixed a.d_mixed
 b_mixed:Binds K a.d_mixed ["_law_cell","_law_k"] []
 m_lkinds:mg "_law_kinds"=some (.ref a.f_lkinds)
 f_lkinds:Fun K "_law_kinds" "_law_kinds" s_lkinds a.f_lkinds a.d_lkinds
 b_lkinds:Binds K a.d_lkinds ["_law_cell"] []
 m_drawn:mg "_law_drawn"=some (.ref a.f_drawn)
 f_drawn:Fun K "_law_drawn" "_law_drawn" s_drawn a.f_drawn a.d_drawn
 b_drawn:Binds K a.d_drawn ["_law_cell","_law_by_digits","_law_kinds_here","_law_many"] []
 m_lwords:mg "_law_words"=some (.ref a.f_lwords)
 f_lwords:Fun K "_law_words" "_law_words" s_lwords a.f_lwords a.d_lwords
 b_lwords:Binds K a.d_lwords ["_law_script","_law_kinds_here"] []
 m_many:mg "_law_many_words"=some (.ref a.f_many)
 f_many:Fun K "_law_many_words" "_law_many_words" s_many a.f_many a.d_many
 b_many:Binds K a.d_many ["_law_kinds_here","_law_many"] []
 m_thing:mg "_law_thing"=some (.ref a.f_thing)
 f_thing:Fun K "_law_thing" "_law_thing" s_thing a.f_thing a.d_thing
 b_thing:Binds K a.d_thing ["_law_x","_law_kinds_here"] []
 m_told:mg "_law_told"=some (.ref a.f_told)
 f_told:Fun K "_law_told" "_law_told" s_told a.f_told a.d_told
 b_told:Binds K a.d_told ["_law_words_here","_law_kinds_here","_law_asked"] []
 m_alike:mg "_law_alike"=some (.ref a.f_alike)
 f_alike:Fun K "_law_alike" "_law_alike" s_alike a.f_alike a.d_alike
 b_alike:Binds K a.d_alike ["_law_found","_law_thing_here"] []
 m_spoiled:mg "_law_spoiled"=some (.ref a.f_spoiled)
 f_spoiled:Fun K "_law_spoiled" "_law_spoiled" s_spoiled a.f_spoiled a.d_spoiled
 b_spoiled:Binds K a.d_spoiled ["_law_some","_law_kinds_here","_law_x","_law_y"] []
 m_avoided:mg "_law_avoided"=some (.ref a.f_avoided)
 f_avoided:Fun K "_law_avoided" "_law_avoided" s_avoided a.f_avoided a.d_avoided
 b_avoided:Binds K a.d_avoided ["_law_words_here","_law_kinds_here","_law_cell"] []
 m_law:mg "law"=some (.ref a.f_law)
 f_law:Fun K "law" "law" s_law a.f_law a.d_law
 b_law:Binds K a.d_law ["_law_script"] []
 m_LackError:mg "LackError"=some (.ref a.c_LackError)
 x_LackError:Xm K a.c_LackError
 xi_LackError:Xi K a.c_LackError
 k_LackError:ClsOk K a.c_LackError [.ref a.c_LackError,.type "ValueError",.type "Exception",.type "BaseException",.type "object"]
 i_LackError:PySem.W.findIn K (.ref a.c_LackError) "__init__"=some (some (.builtin "ValueError.__init__"))
 r_LackError:ClsRead K a.c_LackError "__init__" (.builtin "ValueError.__init__")
 m_NoList:mg "NoList"=some (.ref a.c_NoList)
 x_NoList:Xm K a.c_NoList
 xi_NoList:Xi K a.c_NoList
 k_NoList:ClsOk K a.c_NoList [.ref a.c_NoList,.ref a.c_LackError,.type "ValueError",.type "Exception",.type "BaseException",.type "object"]
 i_NoList:PySem.W.findIn K (.ref a.c_NoList) "__init__"=some (some (.ref a.g_NoList_init))
 fn_NoList:PySem.W.isFn K (.ref a.g_NoList_init)=true
 n_NoList_word:NoAttr K a.c_NoList "word"
 fi_NoList:Fun K "__init__" "NoList.__init__" s_NoList_init a.g_NoList_init a.e_NoList_init
 b_NoList:Binds K a.e_NoList_init ["self","word"] []
 m_NoKinds:mg "NoKinds"=some (.ref a.c_NoKinds)
 x_NoKinds:Xm K a.c_NoKinds
 xi_NoKinds:Xi K a.c_NoKinds
 k_NoKinds:ClsOk K a.c_NoKinds [.ref a.c_NoKinds,.ref a.c_LackError,.type "ValueError",.type "Exception",.type "BaseException",.type "object"]
 i_NoKinds:PySem.W.findIn K (.ref a.c_NoKinds) "__init__"=some (some (.builtin "ValueError.__init__"))
 nd:[a.c_LackError,a.c_NoList,a.c_NoKinds].Nodup
 z_len:mg "len"=none
 z_range:mg "range"=none
 z_enumerate:mg "enumerate"=none
 z_isinstance:mg "isinstance"=none
 z_all:mg "all"=none
 z_max:mg "max"=none
 z_min:mg "min"=none
 z_list:mg "list"=none
 z_tuple:mg "tuple"=none
 z_set:mg "set"=none
 z_sorted:mg "sorted"=none
 z_str:mg "str"=none
 z_bool:mg "bool"=none
 z_dict:mg "dict"=none
 z_any:mg "any"=none
 z_ValueError:mg "ValueError"=none
 c_SMALL_LETTERS:∃t,mg "SMALL_LETTERS"=some (.str (Str.ofString "abcdefghijklmnopqrstuvwxyz") t)
 c_MOST_KINDS:∃t,mg "MOST_KINDS"=some (.int 4 t)
 c_MOST_WORDS:∃t,mg "MOST_WORDS"=some (.int 200 t)
 c_MOST_IN_LIST:∃t,mg "MOST_IN_LIST"=some (.int 41 t)
 bl:∀(s:Shared) (u:Value),BindsTo s a.d_law ⟨[u],[]⟩ [("_law_script",u)]
theorem txt_mk {K:PySem.W.Frag}{h:Heap}{mg:Str→Option Value}(X:K.In h)(G:h.Ns mainGlobals mg){c_LackError:Addr}{cd_LackError:ClassData}{nm_LackError qn_LackError:Str}{N_LackError:Addr}{bs_LackError bm_LackError:List Value}{hdct_LackError:Bool}{sn_LackError:List Str}{sub_LackError:List Value}{ab_LackError:Bool}{col_LackError:Option Bool}{dd_LackError:Option Addr}{k0_LackError k1_LackError k2_LackError k3_LackError k5_LackError:Option Value}{c_NoList:Addr}{cd_NoList:ClassData}{nm_NoList qn_NoList:Str}{N_NoList:Addr}{bs_NoList bm_NoList:List Value}{hdct_NoList:Bool}{sn_NoList:List Str}{sub_NoList:List Value}{ab_NoList:Bool}{col_NoList:Option Bool}{dd_NoList:Option Addr}{k0_NoList k1_NoList k2_NoList k3_NoList k5_NoList:Option Value}{g_NoList_init:Addr}{od_INoList an_INoList:Option Addr}{sl_INoList:Array (Option Value)}{oc_INoList kV_INoList dc_INoList pm_INoList cd_INoList ct_INoList:Value}{c_NoKinds:Addr}{cd_NoKinds:ClassData}{nm_NoKinds qn_NoKinds:Str}{N_NoKinds:Addr}{bs_NoKinds bm_NoKinds:List Value}{hdct_NoKinds:Bool}{sn_NoKinds:List Str}{sub_NoKinds:List Value}{ab_NoKinds:Bool}{col_NoKinds:Option Bool}{dd_NoKinds:Option Addr}{k0_NoKinds k1_NoKinds k2_NoKinds k3_NoKinds k5_NoKinds:Option Value}{f_has_only:Addr}{od_has_only an_has_only:Option Addr}{sl_has_only:Array (Option Value)}{oc_has_only kV_has_only dc_has_only pm_has_only cd_has_only ct_has_only:Value}{f_is_kinds:Addr}{od_is_kinds an_is_kinds:Option Addr}{sl_is_kinds:Array (Option Value)}{oc_is_kinds kV_is_kinds dc_is_kinds pm_is_kinds cd_is_kinds ct_is_kinds:Value}{f_is_word:Addr}{od_is_word an_is_word:Option Addr}{sl_is_word:Array (Option Value)}{oc_is_word kV_is_word dc_is_word pm_is_word cd_is_word ct_is_word:Value}{f_need_kinds:Addr}{od_need_kinds an_need_kinds:Option Addr}{sl_need_kinds:Array (Option Value)}{oc_need_kinds kV_need_kinds dc_need_kinds pm_need_kinds cd_need_kinds ct_need_kinds:Value}{f_need_list:Addr}{od_need_list an_need_list:Option Addr}{sl_need_list:Array (Option Value)}{oc_need_list kV_need_list dc_need_list pm_need_list cd_need_list ct_need_list:Value}{f_avoids:Addr}{od_avoids an_avoids:Option Addr}{sl_avoids:Array (Option Value)}{oc_avoids kV_avoids dc_avoids pm_avoids cd_avoids ct_avoids:Value}{f_strip_of:Addr}{od_strip_of an_strip_of:Option Addr}{sl_strip_of:Array (Option Value)}{oc_strip_of kV_strip_of dc_strip_of pm_strip_of cd_strip_of ct_strip_of:Value}{f_lcell:Addr}{od_lcell an_lcell:Option Addr}{sl_lcell:Array (Option Value)}{oc_lcell kV_lcell dc_lcell pm_lcell cd_lcell ct_lcell:Value}{f_mixed:Addr}{od_mixed an_mixed:Option Addr}{sl_mixed:Array (Option Value)}{oc_mixed kV_mixed dc_mixed pm_mixed cd_mixed ct_mixed:Value}{f_lkinds:Addr}{od_lkinds an_lkinds:Option Addr}{sl_lkinds:Array (Option Value)}{oc_lkinds kV_lkinds dc_lkinds pm_lkinds cd_lkinds ct_lkinds:Value}{f_drawn:Addr}{od_drawn an_drawn:Option Addr}{sl_drawn:Array (Option Value)}{oc_drawn kV_drawn dc_drawn pm_drawn cd_drawn ct_drawn:Value}{f_lwords:Addr}{od_lwords an_lwords:Option Addr}{sl_lwords:Array (Option Value)}{oc_lwords kV_lwords dc_lwords pm_lwords cd_lwords ct_lwords:Value}{f_many:Addr}{od_many an_many:Option Addr}{sl_many:Array (Option Value)}{oc_many kV_many dc_many pm_many cd_many ct_many:Value}{f_thing:Addr}{od_thing an_thing:Option Addr}{sl_thing:Array (Option Value)}{oc_thing kV_thing dc_thing pm_thing cd_thing ct_thing:Value}{f_told:Addr}{od_told an_told:Option Addr}{sl_told:Array (Option Value)}{oc_told kV_told dc_told pm_told cd_told ct_told:Value}{f_alike:Addr}{od_alike an_alike:Option Addr}{sl_alike:Array (Option Value)}{oc_alike kV_alike dc_alike pm_alike cd_alike ct_alike:Value}{f_spoiled:Addr}{od_spoiled an_spoiled:Option Addr}{sl_spoiled:Array (Option Value)}{oc_spoiled kV_spoiled dc_spoiled pm_spoiled cd_spoiled ct_spoiled:Value}{f_avoided:Addr}{od_avoided an_avoided:Option Addr}{sl_avoided:Array (Option Value)}{oc_avoided kV_avoided dc_avoided pm_avoided cd_avoided ct_avoided:Value}{f_law:Addr}{od_law an_law:Option Addr}{sl_law:Array (Option Value)}{oc_law kV_law dc_law pm_law cd_law ct_law:Value}{tk_SMALL_LETTERS:Tok}{tk_MOST_KINDS:Tok}{tk_MOST_WORDS:Tok}{tk_MOST_IN_LIST:Tok}
  (oc_hn:PySem.W.specialIn K (.builtin "object.__class__") "__get__"=some (some (.builtin "getset_descriptor.__get__")))
  (oc_tk:PySem.W.takesIn K (.builtin "object.__class__")=some true)
  (a_LackError:PySem.W.nsIn K mainGlobals "LackError"=some (some (.ref c_LackError)))
  (q_LackError:PySem.W.clsIn K c_LackError=some cd_LackError)
  (r_LackError:cd_LackError.mro=[.ref c_LackError,.type "ValueError",.type "Exception",.type "BaseException",.type "object"])
  (ty_LackError:PySem.W.typeIn K (.ref c_LackError)=some (.type "type"))
  (ga_LackError:PySem.W.findIn K (.ref c_LackError) "__getattribute__"=some (some (.builtin "BaseException.__getattribute__")))
  (gr_LackError:PySem.W.findIn K (.ref c_LackError) "__getattr__"=some none)
  (sa_LackError:PySem.W.findIn K (.ref c_LackError) "__setattr__"=some (some (.builtin "object.__setattr__")))
  (hd_LackError:PySem.W.hasDictIn K c_LackError=true)
  (ob_LackError:K.lookup c_LackError=some (excClassObj nm_LackError qn_LackError c_LackError N_LackError bs_LackError bm_LackError hdct_LackError sn_LackError sub_LackError ab_LackError col_LackError dd_LackError k0_LackError k1_LackError k2_LackError k3_LackError k5_LackError "ValueError.__new__"))
  (kp_LackError:PySem.W.keepIn K (.ref c_LackError)=true)
  (ha_LackError:PySem.W.findIn K (.ref c_LackError) "__class__"=some (some (.builtin "object.__class__")))
  (i_LackError:PySem.W.findIn K (.ref c_LackError) "__init__"=some (some (.builtin "ValueError.__init__")))
  (rs_LackError:PySem.W.specialIn K (.ref c_LackError) "__getattribute__"=some (some (.builtin "type.__getattribute__")))
  (rr_LackError:PySem.W.readsIn K c_LackError (.type "type")=true)
  (rf_LackError:PySem.W.findCls K (.ref c_LackError) (.type "type") "__init__"=some (.val (.builtin "ValueError.__init__")))
  (a_NoList:PySem.W.nsIn K mainGlobals "NoList"=some (some (.ref c_NoList)))
  (q_NoList:PySem.W.clsIn K c_NoList=some cd_NoList)
  (r_NoList:cd_NoList.mro=[.ref c_NoList,.ref c_LackError,.type "ValueError",.type "Exception",.type "BaseException",.type "object"])
  (ty_NoList:PySem.W.typeIn K (.ref c_NoList)=some (.type "type"))
  (ga_NoList:PySem.W.findIn K (.ref c_NoList) "__getattribute__"=some (some (.builtin "BaseException.__getattribute__")))
  (gr_NoList:PySem.W.findIn K (.ref c_NoList) "__getattr__"=some none)
  (sa_NoList:PySem.W.findIn K (.ref c_NoList) "__setattr__"=some (some (.builtin "object.__setattr__")))
  (hd_NoList:PySem.W.hasDictIn K c_NoList=true)
  (ob_NoList:K.lookup c_NoList=some (excClassObj nm_NoList qn_NoList c_NoList N_NoList bs_NoList bm_NoList hdct_NoList sn_NoList sub_NoList ab_NoList col_NoList dd_NoList k0_NoList k1_NoList k2_NoList k3_NoList k5_NoList "ValueError.__new__"))
  (kp_NoList:PySem.W.keepIn K (.ref c_NoList)=true)
  (ha_NoList:PySem.W.findIn K (.ref c_NoList) "__class__"=some (some (.builtin "object.__class__")))
  (i_NoList:PySem.W.findIn K (.ref c_NoList) "__init__"=some (some (.ref g_NoList_init)))
  (fn_NoList:PySem.W.isFn K (.ref g_NoList_init)=true)
  (l_INoList:K.lookup g_NoList_init=some ⟨oc_INoList,od_INoList,.func (PySem.W.fnOf "__init__" "NoList.__init__" (defArgs s_NoList_init) (defBody s_NoList_init) (defScope s_NoList_init) .none kV_INoList dc_INoList pm_INoList an_INoList cd_INoList ct_INoList),sl_INoList⟩)
  (cc_INoList:PySem.W.codeIn K cd_INoList "NoList.__init__"=true)
  (kk_INoList:PySem.W.keepIn K (.ref g_NoList_init)=true)
  (n_NoList_word:PySem.W.findIn K (.ref c_NoList) "word"=some none)
  (a_NoKinds:PySem.W.nsIn K mainGlobals "NoKinds"=some (some (.ref c_NoKinds)))
  (q_NoKinds:PySem.W.clsIn K c_NoKinds=some cd_NoKinds)
  (r_NoKinds:cd_NoKinds.mro=[.ref c_NoKinds,.ref c_LackError,.type "ValueError",.type "Exception",.type "BaseException",.type "object"])
  (ty_NoKinds:PySem.W.typeIn K (.ref c_NoKinds)=some (.type "type"))
  (ga_NoKinds:PySem.W.findIn K (.ref c_NoKinds) "__getattribute__"=some (some (.builtin "BaseException.__getattribute__")))
  (gr_NoKinds:PySem.W.findIn K (.ref c_NoKinds) "__getattr__"=some none)
  (sa_NoKinds:PySem.W.findIn K (.ref c_NoKinds) "__setattr__"=some (some (.builtin "object.__setattr__")))
  (hd_NoKinds:PySem.W.hasDictIn K c_NoKinds=true)
  (ob_NoKinds:K.lookup c_NoKinds=some (excClassObj nm_NoKinds qn_NoKinds c_NoKinds N_NoKinds bs_NoKinds bm_NoKinds hdct_NoKinds sn_NoKinds sub_NoKinds ab_NoKinds col_NoKinds dd_NoKinds k0_NoKinds k1_NoKinds k2_NoKinds k3_NoKinds k5_NoKinds "ValueError.__new__"))
  (kp_NoKinds:PySem.W.keepIn K (.ref c_NoKinds)=true)
  (ha_NoKinds:PySem.W.findIn K (.ref c_NoKinds) "__class__"=some (some (.builtin "object.__class__")))
  (i_NoKinds:PySem.W.findIn K (.ref c_NoKinds) "__init__"=some (some (.builtin "ValueError.__init__")))
  (nd:[c_LackError,c_NoList,c_NoKinds].Nodup)
  (a_has_only:PySem.W.nsIn K mainGlobals "has_only"=some (some (.ref f_has_only)))
  (l_has_only:K.lookup f_has_only=some ⟨oc_has_only,od_has_only,.func (PySem.W.fnOf "has_only" "has_only" (defArgs s_has_only) (defBody s_has_only) (defScope s_has_only) .none kV_has_only dc_has_only pm_has_only an_has_only cd_has_only ct_has_only),sl_has_only⟩)
  (cc_has_only:PySem.W.codeIn K cd_has_only "has_only"=true)
  (kk_has_only:PySem.W.keepIn K (.ref f_has_only)=true)
  (a_is_kinds:PySem.W.nsIn K mainGlobals "is_kinds"=some (some (.ref f_is_kinds)))
  (l_is_kinds:K.lookup f_is_kinds=some ⟨oc_is_kinds,od_is_kinds,.func (PySem.W.fnOf "is_kinds" "is_kinds" (defArgs s_is_kinds) (defBody s_is_kinds) (defScope s_is_kinds) .none kV_is_kinds dc_is_kinds pm_is_kinds an_is_kinds cd_is_kinds ct_is_kinds),sl_is_kinds⟩)
  (cc_is_kinds:PySem.W.codeIn K cd_is_kinds "is_kinds"=true)
  (kk_is_kinds:PySem.W.keepIn K (.ref f_is_kinds)=true)
  (a_is_word:PySem.W.nsIn K mainGlobals "is_word"=some (some (.ref f_is_word)))
  (l_is_word:K.lookup f_is_word=some ⟨oc_is_word,od_is_word,.func (PySem.W.fnOf "is_word" "is_word" (defArgs s_is_word) (defBody s_is_word) (defScope s_is_word) .none kV_is_word dc_is_word pm_is_word an_is_word cd_is_word ct_is_word),sl_is_word⟩)
  (cc_is_word:PySem.W.codeIn K cd_is_word "is_word"=true)
  (kk_is_word:PySem.W.keepIn K (.ref f_is_word)=true)
  (a_need_kinds:PySem.W.nsIn K mainGlobals "need_kinds"=some (some (.ref f_need_kinds)))
  (l_need_kinds:K.lookup f_need_kinds=some ⟨oc_need_kinds,od_need_kinds,.func (PySem.W.fnOf "need_kinds" "need_kinds" (defArgs s_need_kinds) (defBody s_need_kinds) (defScope s_need_kinds) .none kV_need_kinds dc_need_kinds pm_need_kinds an_need_kinds cd_need_kinds ct_need_kinds),sl_need_kinds⟩)
  (cc_need_kinds:PySem.W.codeIn K cd_need_kinds "need_kinds"=true)
  (kk_need_kinds:PySem.W.keepIn K (.ref f_need_kinds)=true)
  (a_need_list:PySem.W.nsIn K mainGlobals "need_list"=some (some (.ref f_need_list)))
  (l_need_list:K.lookup f_need_list=some ⟨oc_need_list,od_need_list,.func (PySem.W.fnOf "need_list" "need_list" (defArgs s_need_list) (defBody s_need_list) (defScope s_need_list) .none kV_need_list dc_need_list pm_need_list an_need_list cd_need_list ct_need_list),sl_need_list⟩)
  (cc_need_list:PySem.W.codeIn K cd_need_list "need_list"=true)
  (kk_need_list:PySem.W.keepIn K (.ref f_need_list)=true)
  (a_avoids:PySem.W.nsIn K mainGlobals "avoids"=some (some (.ref f_avoids)))
  (l_avoids:K.lookup f_avoids=some ⟨oc_avoids,od_avoids,.func (PySem.W.fnOf "avoids" "avoids" (defArgs s_avoids) (defBody s_avoids) (defScope s_avoids) .none kV_avoids dc_avoids pm_avoids an_avoids cd_avoids ct_avoids),sl_avoids⟩)
  (cc_avoids:PySem.W.codeIn K cd_avoids "avoids"=true)
  (kk_avoids:PySem.W.keepIn K (.ref f_avoids)=true)
  (a_strip_of:PySem.W.nsIn K mainGlobals "strip_of"=some (some (.ref f_strip_of)))
  (l_strip_of:K.lookup f_strip_of=some ⟨oc_strip_of,od_strip_of,.func (PySem.W.fnOf "strip_of" "strip_of" (defArgs s_strip_of) (defBody s_strip_of) (defScope s_strip_of) .none kV_strip_of dc_strip_of pm_strip_of an_strip_of cd_strip_of ct_strip_of),sl_strip_of⟩)
  (cc_strip_of:PySem.W.codeIn K cd_strip_of "strip_of"=true)
  (kk_strip_of:PySem.W.keepIn K (.ref f_strip_of)=true)
  (a_lcell:PySem.W.nsIn K mainGlobals "_law_cell_at"=some (some (.ref f_lcell)))
  (l_lcell:K.lookup f_lcell=some ⟨oc_lcell,od_lcell,.func (PySem.W.fnOf "_law_cell_at" "_law_cell_at" (defArgs s_lcell) (defBody s_lcell) (defScope s_lcell) .none kV_lcell dc_lcell pm_lcell an_lcell cd_lcell ct_lcell),sl_lcell⟩)
  (cc_lcell:PySem.W.codeIn K cd_lcell "_law_cell_at"=true)
  (kk_lcell:PySem.W.keepIn K (.ref f_lcell)=true)
  (a_mixed:PySem.W.nsIn K mainGlobals "_law_mixed"=some (some (.ref f_mixed)))
  (l_mixed:K.lookup f_mixed=some ⟨oc_mixed,od_mixed,.func (PySem.W.fnOf "_law_mixed" "_law_mixed" (defArgs s_mixed) (defBody s_mixed) (defScope s_mixed) .none kV_mixed dc_mixed pm_mixed an_mixed cd_mixed ct_mixed),sl_mixed⟩)
  (cc_mixed:PySem.W.codeIn K cd_mixed "_law_mixed"=true)
  (kk_mixed:PySem.W.keepIn K (.ref f_mixed)=true)
  (a_lkinds:PySem.W.nsIn K mainGlobals "_law_kinds"=some (some (.ref f_lkinds)))
  (l_lkinds:K.lookup f_lkinds=some ⟨oc_lkinds,od_lkinds,.func (PySem.W.fnOf "_law_kinds" "_law_kinds" (defArgs s_lkinds) (defBody s_lkinds) (defScope s_lkinds) .none kV_lkinds dc_lkinds pm_lkinds an_lkinds cd_lkinds ct_lkinds),sl_lkinds⟩)
  (cc_lkinds:PySem.W.codeIn K cd_lkinds "_law_kinds"=true)
  (kk_lkinds:PySem.W.keepIn K (.ref f_lkinds)=true)
  (a_drawn:PySem.W.nsIn K mainGlobals "_law_drawn"=some (some (.ref f_drawn)))
  (l_drawn:K.lookup f_drawn=some ⟨oc_drawn,od_drawn,.func (PySem.W.fnOf "_law_drawn" "_law_drawn" (defArgs s_drawn) (defBody s_drawn) (defScope s_drawn) .none kV_drawn dc_drawn pm_drawn an_drawn cd_drawn ct_drawn),sl_drawn⟩)
  (cc_drawn:PySem.W.codeIn K cd_drawn "_law_drawn"=true)
  (kk_drawn:PySem.W.keepIn K (.ref f_drawn)=true)
  (a_lwords:PySem.W.nsIn K mainGlobals "_law_words"=some (some (.ref f_lwords)))
  (l_lwords:K.lookup f_lwords=some ⟨oc_lwords,od_lwords,.func (PySem.W.fnOf "_law_words" "_law_words" (defArgs s_lwords) (defBody s_lwords) (defScope s_lwords) .none kV_lwords dc_lwords pm_lwords an_lwords cd_lwords ct_lwords),sl_lwords⟩)
  (cc_lwords:PySem.W.codeIn K cd_lwords "_law_words"=true)
  (kk_lwords:PySem.W.keepIn K (.ref f_lwords)=true)
  (a_many:PySem.W.nsIn K mainGlobals "_law_many_words"=some (some (.ref f_many)))
  (l_many:K.lookup f_many=some ⟨oc_many,od_many,.func (PySem.W.fnOf "_law_many_words" "_law_many_words" (defArgs s_many) (defBody s_many) (defScope s_many) .none kV_many dc_many pm_many an_many cd_many ct_many),sl_many⟩)
  (cc_many:PySem.W.codeIn K cd_many "_law_many_words"=true)
  (kk_many:PySem.W.keepIn K (.ref f_many)=true)
  (a_thing:PySem.W.nsIn K mainGlobals "_law_thing"=some (some (.ref f_thing)))
  (l_thing:K.lookup f_thing=some ⟨oc_thing,od_thing,.func (PySem.W.fnOf "_law_thing" "_law_thing" (defArgs s_thing) (defBody s_thing) (defScope s_thing) .none kV_thing dc_thing pm_thing an_thing cd_thing ct_thing),sl_thing⟩)
  (cc_thing:PySem.W.codeIn K cd_thing "_law_thing"=true)
  (kk_thing:PySem.W.keepIn K (.ref f_thing)=true)
  (a_told:PySem.W.nsIn K mainGlobals "_law_told"=some (some (.ref f_told)))
  (l_told:K.lookup f_told=some ⟨oc_told,od_told,.func (PySem.W.fnOf "_law_told" "_law_told" (defArgs s_told) (defBody s_told) (defScope s_told) .none kV_told dc_told pm_told an_told cd_told ct_told),sl_told⟩)
  (cc_told:PySem.W.codeIn K cd_told "_law_told"=true)
  (kk_told:PySem.W.keepIn K (.ref f_told)=true)
  (a_alike:PySem.W.nsIn K mainGlobals "_law_alike"=some (some (.ref f_alike)))
  (l_alike:K.lookup f_alike=some ⟨oc_alike,od_alike,.func (PySem.W.fnOf "_law_alike" "_law_alike" (defArgs s_alike) (defBody s_alike) (defScope s_alike) .none kV_alike dc_alike pm_alike an_alike cd_alike ct_alike),sl_alike⟩)
  (cc_alike:PySem.W.codeIn K cd_alike "_law_alike"=true)
  (kk_alike:PySem.W.keepIn K (.ref f_alike)=true)
  (a_spoiled:PySem.W.nsIn K mainGlobals "_law_spoiled"=some (some (.ref f_spoiled)))
  (l_spoiled:K.lookup f_spoiled=some ⟨oc_spoiled,od_spoiled,.func (PySem.W.fnOf "_law_spoiled" "_law_spoiled" (defArgs s_spoiled) (defBody s_spoiled) (defScope s_spoiled) .none kV_spoiled dc_spoiled pm_spoiled an_spoiled cd_spoiled ct_spoiled),sl_spoiled⟩)
  (cc_spoiled:PySem.W.codeIn K cd_spoiled "_law_spoiled"=true)
  (kk_spoiled:PySem.W.keepIn K (.ref f_spoiled)=true)
  (a_avoided:PySem.W.nsIn K mainGlobals "_law_avoided"=some (some (.ref f_avoided)))
  (l_avoided:K.lookup f_avoided=some ⟨oc_avoided,od_avoided,.func (PySem.W.fnOf "_law_avoided" "_law_avoided" (defArgs s_avoided) (defBody s_avoided) (defScope s_avoided) .none kV_avoided dc_avoided pm_avoided an_avoided cd_avoided ct_avoided),sl_avoided⟩)
  (cc_avoided:PySem.W.codeIn K cd_avoided "_law_avoided"=true)
  (kk_avoided:PySem.W.keepIn K (.ref f_avoided)=true)
  (a_law:PySem.W.nsIn K mainGlobals "law"=some (some (.ref f_law)))
  (l_law:K.lookup f_law=some ⟨oc_law,od_law,.func (PySem.W.fnOf "law" "law" (defArgs s_law) (defBody s_law) (defScope s_law) .none kV_law dc_law pm_law an_law cd_law ct_law),sl_law⟩)
  (cc_law:PySem.W.codeIn K cd_law "law"=true)
  (kk_law:PySem.W.keepIn K (.ref f_law)=true)
  (z_len:PySem.W.nsIn K mainGlobals "len"=some none)
  (z_range:PySem.W.nsIn K mainGlobals "range"=some none)
  (z_enumerate:PySem.W.nsIn K mainGlobals "enumerate"=some none)
  (z_isinstance:PySem.W.nsIn K mainGlobals "isinstance"=some none)
  (z_all:PySem.W.nsIn K mainGlobals "all"=some none)
  (z_max:PySem.W.nsIn K mainGlobals "max"=some none)
  (z_min:PySem.W.nsIn K mainGlobals "min"=some none)
  (z_list:PySem.W.nsIn K mainGlobals "list"=some none)
  (z_tuple:PySem.W.nsIn K mainGlobals "tuple"=some none)
  (z_set:PySem.W.nsIn K mainGlobals "set"=some none)
  (z_sorted:PySem.W.nsIn K mainGlobals "sorted"=some none)
  (z_str:PySem.W.nsIn K mainGlobals "str"=some none)
  (z_bool:PySem.W.nsIn K mainGlobals "bool"=some none)
  (z_dict:PySem.W.nsIn K mainGlobals "dict"=some none)
  (z_any:PySem.W.nsIn K mainGlobals "any"=some none)
  (z_ValueError:PySem.W.nsIn K mainGlobals "ValueError"=some none)
  (c_SMALL_LETTERS:PySem.W.nsIn K mainGlobals "SMALL_LETTERS"=some (some (.str (Str.ofString "abcdefghijklmnopqrstuvwxyz") tk_SMALL_LETTERS)))
  (c_MOST_KINDS:PySem.W.nsIn K mainGlobals "MOST_KINDS"=some (some (.int 4 tk_MOST_KINDS)))
  (c_MOST_WORDS:PySem.W.nsIn K mainGlobals "MOST_WORDS"=some (some (.int 200 tk_MOST_WORDS)))
  (c_MOST_IN_LIST:PySem.W.nsIn K mainGlobals "MOST_IN_LIST"=some (some (.int 41 tk_MOST_IN_LIST))):∃a,Txt K mg a:=by
 have xc_LackError:Xc K c_LackError:=⟨ga_LackError,gr_LackError,sa_LackError,hd_LackError,by rw[q_LackError];show xmro cd_LackError.mro=true;rw[r_LackError];rfl⟩
 have xc_NoList:Xc K c_NoList:=⟨ga_NoList,gr_NoList,sa_NoList,hd_NoList,by rw[q_NoList];show xmro cd_NoList.mro=true;rw[r_NoList];rfl⟩
 have F_INoList:=fun_mk (st:=s_NoList_init) l_INoList cc_INoList kk_INoList
 have xc_NoKinds:Xc K c_NoKinds:=⟨ga_NoKinds,gr_NoKinds,sa_NoKinds,hd_NoKinds,by rw[q_NoKinds];show xmro cd_NoKinds.mro=true;rw[r_NoKinds];rfl⟩
 have F_has_only:=fun_mk (st:=s_has_only) l_has_only cc_has_only kk_has_only
 have F_is_kinds:=fun_mk (st:=s_is_kinds) l_is_kinds cc_is_kinds kk_is_kinds
 have F_is_word:=fun_mk (st:=s_is_word) l_is_word cc_is_word kk_is_word
 have F_need_kinds:=fun_mk (st:=s_need_kinds) l_need_kinds cc_need_kinds kk_need_kinds
 have F_need_list:=fun_mk (st:=s_need_list) l_need_list cc_need_list kk_need_list
 have F_avoids:=fun_mk (st:=s_avoids) l_avoids cc_avoids kk_avoids
 have F_strip_of:=fun_mk (st:=s_strip_of) l_strip_of cc_strip_of kk_strip_of
 have F_lcell:=fun_mk (st:=s_lcell) l_lcell cc_lcell kk_lcell
 have F_mixed:=fun_mk (st:=s_mixed) l_mixed cc_mixed kk_mixed
 have F_lkinds:=fun_mk (st:=s_lkinds) l_lkinds cc_lkinds kk_lkinds
 have F_drawn:=fun_mk (st:=s_drawn) l_drawn cc_drawn kk_drawn
 have F_lwords:=fun_mk (st:=s_lwords) l_lwords cc_lwords kk_lwords
 have F_many:=fun_mk (st:=s_many) l_many cc_many kk_many
 have F_thing:=fun_mk (st:=s_thing) l_thing cc_thing kk_thing
 have F_told:=fun_mk (st:=s_told) l_told cc_told kk_told
 have F_alike:=fun_mk (st:=s_alike) l_alike cc_alike kk_alike
 have F_spoiled:=fun_mk (st:=s_spoiled) l_spoiled cc_spoiled kk_spoiled
 have F_avoided:=fun_mk (st:=s_avoided) l_avoided cc_avoided kk_avoided
 have F_law:=fun_mk (st:=s_law) l_law cc_law kk_law
 refine⟨{ c_LackError:=c_LackError,g_NoList_init:=g_NoList_init,e_NoList_init:=PySem.W.fnOf "__init__" "NoList.__init__" (defArgs s_NoList_init) (defBody s_NoList_init) (defScope s_NoList_init) .none kV_INoList dc_INoList pm_INoList an_INoList cd_INoList ct_INoList,c_NoList:=c_NoList,c_NoKinds:=c_NoKinds,f_has_only:=f_has_only,d_has_only:=PySem.W.fnOf "has_only" "has_only" (defArgs s_has_only) (defBody s_has_only) (defScope s_has_only) .none kV_has_only dc_has_only pm_has_only an_has_only cd_has_only ct_has_only,f_is_kinds:=f_is_kinds,d_is_kinds:=PySem.W.fnOf "is_kinds" "is_kinds" (defArgs s_is_kinds) (defBody s_is_kinds) (defScope s_is_kinds) .none kV_is_kinds dc_is_kinds pm_is_kinds an_is_kinds cd_is_kinds ct_is_kinds,f_is_word:=f_is_word,d_is_word:=PySem.W.fnOf "is_word" "is_word" (defArgs s_is_word) (defBody s_is_word) (defScope s_is_word) .none kV_is_word dc_is_word pm_is_word an_is_word cd_is_word ct_is_word,f_need_kinds:=f_need_kinds,d_need_kinds:=PySem.W.fnOf "need_kinds" "need_kinds" (defArgs s_need_kinds) (defBody s_need_kinds) (defScope s_need_kinds) .none kV_need_kinds dc_need_kinds pm_need_kinds an_need_kinds cd_need_kinds ct_need_kinds,f_need_list:=f_need_list,d_need_list:=PySem.W.fnOf "need_list" "need_list" (defArgs s_need_list) (defBody s_need_list) (defScope s_need_list) .none kV_need_list dc_need_list pm_need_list an_need_list cd_need_list ct_need_list,f_avoids:=f_avoids,d_avoids:=PySem.W.fnOf "avoids" "avoids" (defArgs s_avoids) (defBody s_avoids) (defScope s_avoids) .none kV_avoids dc_avoids pm_avoids an_avoids cd_avoids ct_avoids,f_strip_of:=f_strip_of,d_strip_of:=PySem.W.fnOf "strip_of" "strip_of" (defArgs s_strip_of) (defBody s_strip_of) (defScope s_strip_of) .none kV_strip_of dc_strip_of pm_strip_of an_strip_of cd_strip_of ct_strip_of,f_lcell:=f_lcell,d_lcell:=PySem.W.fnOf "_law_cell_at" "_law_cell_at" (defArgs s_lcell) (defBody s_lcell) (defScope s_lcell) .none kV_lcell dc_lcell pm_lcell an_lcell cd_lcell ct_lcell,f_mixed:=f_mixed,d_mixed:=PySem.W.fnOf "_law_mixed" "_law_mixed" (defArgs s_mixed) (defBody s_mixed) (defScope s_mixed) .none kV_mixed dc_mixed pm_mixed an_mixed cd_mixed ct_mixed,f_lkinds:=f_lkinds,d_lkinds:=PySem.W.fnOf "_law_kinds" "_law_kinds" (defArgs s_lkinds) (defBody s_lkinds) (defScope s_lkinds) .none kV_lkinds dc_lkinds pm_lkinds an_lkinds cd_lkinds ct_lkinds,f_drawn:=f_drawn,d_drawn:=PySem.W.fnOf "_law_drawn" "_law_drawn" (defArgs s_drawn) (defBody s_drawn) (defScope s_drawn) .none kV_drawn dc_drawn pm_drawn an_drawn cd_drawn ct_drawn,f_lwords:=f_lwords,d_lwords:=PySem.W.fnOf "_law_words" "_law_words" (defArgs s_lwords) (defBody s_lwords) (defScope s_lwords) .none kV_lwords dc_lwords pm_lwords an_lwords cd_lwords ct_lwords,f_many:=f_many,d_many:=PySem.W.fnOf "_law_many_words" "_law_many_words" (defArgs s_many) (defBody s_many) (defScope s_many) .none kV_many dc_many pm_many an_many cd_many ct_many,f_thing:=f_thing,d_thing:=PySem.W.fnOf "_law_thing" "_law_thing" (defArgs s_thing) (defBody s_thing) (defScope s_thing) .none kV_thing dc_thing pm_thing an_thing cd_thing ct_thing,f_told:=f_told,d_told:=PySem.W.fnOf "_law_told" "_law_told" (defArgs s_told) (defBody s_told) (defScope s_told) .none kV_told dc_told pm_told an_told cd_told ct_told,f_alike:=f_alike,d_alike:=PySem.W.fnOf "_law_alike" "_law_alike" (defArgs s_alike) (defBody s_alike) (defScope s_alike) .none kV_alike dc_alike pm_alike an_alike cd_alike ct_alike,f_spoiled:=f_spoiled,d_spoiled:=PySem.W.fnOf "_law_spoiled" "_law_spoiled" (defArgs s_spoiled) (defBody s_spoiled) (defScope s_spoiled) .none kV_spoiled dc_spoiled pm_spoiled an_spoiled cd_spoiled ct_spoiled,f_avoided:=f_avoided,d_avoided:=PySem.W.fnOf "_law_avoided" "_law_avoided" (defArgs s_avoided) (defBody s_avoided) (defScope s_avoided) .none kV_avoided dc_avoided pm_avoided an_avoided cd_avoided ct_avoided,f_law:=f_law,d_law:=PySem.W.fnOf "law" "law" (defArgs s_law) (defBody s_law) (defScope s_law) .none kV_law dc_law pm_law an_law cd_law ct_law },{ m_has_only:=PySem.W.mg_of X G a_has_only,f_has_only:=F_has_only,b_has_only:=F_has_only.binds (ps:=["text","letters"]) fun _ _ _ _ _ _ us hl=>match us,hl with | [_,_],_=>rfl,m_is_kinds:=PySem.W.mg_of X G a_is_kinds,f_is_kinds:=F_is_kinds,b_is_kinds:=F_is_kinds.binds (ps:=["thing"]) fun _ _ _ _ _ _ us hl=>match us,hl with | [_],_=>rfl,m_is_word:=PySem.W.mg_of X G a_is_word,f_is_word:=F_is_word,b_is_word:=F_is_word.binds (ps:=["thing","kinds","most"]) fun _ _ _ _ _ _ us hl=>match us,hl with | [_,_,_],_=>rfl,m_need_kinds:=PySem.W.mg_of X G a_need_kinds,f_need_kinds:=F_need_kinds,b_need_kinds:=F_need_kinds.binds (ps:=["thing"]) fun _ _ _ _ _ _ us hl=>match us,hl with | [_],_=>rfl,m_need_list:=PySem.W.mg_of X G a_need_list,f_need_list:=F_need_list,b_need_list:=F_need_list.binds (ps:=["words","kinds"]) fun _ _ _ _ _ _ us hl=>match us,hl with | [_,_],_=>rfl,m_avoids:=PySem.W.mg_of X G a_avoids,f_avoids:=F_avoids,b_avoids:=F_avoids.binds (ps:=["words","word"]) fun _ _ _ _ _ _ us hl=>match us,hl with | [_,_],_=>rfl,m_strip_of:=PySem.W.mg_of X G a_strip_of,f_strip_of:=F_strip_of,b_strip_of:=F_strip_of.binds (ps:=["words","kinds"]) fun _ _ _ _ _ _ us hl=>match us,hl with | [_,_],_=>rfl,m_lcell:=PySem.W.mg_of X G a_lcell,f_lcell:=F_lcell,b_lcell:=F_lcell.binds (ps:=["_law_script","_law_k"]) fun _ _ _ _ _ _ us hl=>match us,hl with | [_,_],_=>rfl,m_mixed:=PySem.W.mg_of X G a_mixed,f_mixed:=F_mixed,b_mixed:=F_mixed.binds (ps:=["_law_cell","_law_k"]) fun _ _ _ _ _ _ us hl=>match us,hl with | [_,_],_=>rfl,m_lkinds:=PySem.W.mg_of X G a_lkinds,f_lkinds:=F_lkinds,b_lkinds:=F_lkinds.binds (ps:=["_law_cell"]) fun _ _ _ _ _ _ us hl=>match us,hl with | [_],_=>rfl,m_drawn:=PySem.W.mg_of X G a_drawn,f_drawn:=F_drawn,b_drawn:=F_drawn.binds (ps:=["_law_cell","_law_by_digits","_law_kinds_here","_law_many"]) fun _ _ _ _ _ _ us hl=>match us,hl with | [_,_,_,_],_=>rfl,m_lwords:=PySem.W.mg_of X G a_lwords,f_lwords:=F_lwords,b_lwords:=F_lwords.binds (ps:=["_law_script","_law_kinds_here"]) fun _ _ _ _ _ _ us hl=>match us,hl with | [_,_],_=>rfl,m_many:=PySem.W.mg_of X G a_many,f_many:=F_many,b_many:=F_many.binds (ps:=["_law_kinds_here","_law_many"]) fun _ _ _ _ _ _ us hl=>match us,hl with | [_,_],_=>rfl,m_thing:=PySem.W.mg_of X G a_thing,f_thing:=F_thing,b_thing:=F_thing.binds (ps:=["_law_x","_law_kinds_here"]) fun _ _ _ _ _ _ us hl=>match us,hl with | [_,_],_=>rfl,m_told:=PySem.W.mg_of X G a_told,f_told:=F_told,b_told:=F_told.binds (ps:=["_law_words_here","_law_kinds_here","_law_asked"]) fun _ _ _ _ _ _ us hl=>match us,hl with | [_,_,_],_=>rfl,m_alike:=PySem.W.mg_of X G a_alike,f_alike:=F_alike,b_alike:=F_alike.binds (ps:=["_law_found","_law_thing_here"]) fun _ _ _ _ _ _ us hl=>match us,hl with | [_,_],_=>rfl,m_spoiled:=PySem.W.mg_of X G a_spoiled,f_spoiled:=F_spoiled,b_spoiled:=F_spoiled.binds (ps:=["_law_some","_law_kinds_here","_law_x","_law_y"]) fun _ _ _ _ _ _ us hl=>match us,hl with | [_,_,_,_],_=>rfl,m_avoided:=PySem.W.mg_of X G a_avoided,f_avoided:=F_avoided,b_avoided:=F_avoided.binds (ps:=["_law_words_here","_law_kinds_here","_law_cell"]) fun _ _ _ _ _ _ us hl=>match us,hl with | [_,_,_],_=>rfl,m_law:=PySem.W.mg_of X G a_law,f_law:=F_law,b_law:=F_law.binds (ps:=["_law_script"]) fun _ _ _ _ _ _ us hl=>match us,hl with | [_],_=>rfl,m_LackError:=PySem.W.mg_of X G a_LackError,x_LackError:=⟨xc_LackError,⟨_,_,_,_,_,_,_,_,_,_,_,_,_,_,_,_,ob_LackError⟩,kp_LackError⟩,xi_LackError:=⟨xc_LackError,ha_LackError,oc_hn,oc_tk⟩,k_LackError:=⟨⟨_,q_LackError,r_LackError⟩,ty_LackError,rfl⟩,i_LackError:=i_LackError,r_LackError:=⟨rs_LackError,rr_LackError,rf_LackError,rfl⟩,m_NoList:=PySem.W.mg_of X G a_NoList,x_NoList:=⟨xc_NoList,⟨_,_,_,_,_,_,_,_,_,_,_,_,_,_,_,_,ob_NoList⟩,kp_NoList⟩,xi_NoList:=⟨xc_NoList,ha_NoList,oc_hn,oc_tk⟩,k_NoList:=⟨⟨_,q_NoList,r_NoList⟩,ty_NoList,rfl⟩,i_NoList:=i_NoList,fn_NoList:=fn_NoList,n_NoList_word:=n_NoList_word,fi_NoList:=F_INoList,b_NoList:=F_INoList.binds (ps:=["self","word"]) fun _ _ _ _ _ _ us hl=>match us,hl with | [_,_],_=>rfl,m_NoKinds:=PySem.W.mg_of X G a_NoKinds,x_NoKinds:=⟨xc_NoKinds,⟨_,_,_,_,_,_,_,_,_,_,_,_,_,_,_,_,ob_NoKinds⟩,kp_NoKinds⟩,xi_NoKinds:=⟨xc_NoKinds,ha_NoKinds,oc_hn,oc_tk⟩,k_NoKinds:=⟨⟨_,q_NoKinds,r_NoKinds⟩,ty_NoKinds,rfl⟩,i_NoKinds:=i_NoKinds,nd:=nd,z_len:=PySem.W.mg_none_of X G z_len,z_range:=PySem.W.mg_none_of X G z_range,z_enumerate:=PySem.W.mg_none_of X G z_enumerate,z_isinstance:=PySem.W.mg_none_of X G z_isinstance,z_all:=PySem.W.mg_none_of X G z_all,z_max:=PySem.W.mg_none_of X G z_max,z_min:=PySem.W.mg_none_of X G z_min,z_list:=PySem.W.mg_none_of X G z_list,z_tuple:=PySem.W.mg_none_of X G z_tuple,z_set:=PySem.W.mg_none_of X G z_set,z_sorted:=PySem.W.mg_none_of X G z_sorted,z_str:=PySem.W.mg_none_of X G z_str,z_bool:=PySem.W.mg_none_of X G z_bool,z_dict:=PySem.W.mg_none_of X G z_dict,z_any:=PySem.W.mg_none_of X G z_any,z_ValueError:=PySem.W.mg_none_of X G z_ValueError,c_SMALL_LETTERS:=⟨_,PySem.W.mg_of X G c_SMALL_LETTERS⟩,c_MOST_KINDS:=⟨_,PySem.W.mg_of X G c_MOST_KINDS⟩,c_MOST_WORDS:=⟨_,PySem.W.mg_of X G c_MOST_WORDS⟩,c_MOST_IN_LIST:=⟨_,PySem.W.mg_of X G c_MOST_IN_LIST⟩,bl:=fun s u=>.of_eq rfl }⟩
end Pk61
namespace Pk61
open PySem L2
def LET:List Nat:=[97,98,99,100,101,102,103,104,105,106,107,108,109,110,111,112,113,114,115,116,117,118,119,120,121,122]
def isk (l:List Nat):Bool:=decide (1≤l.length)&&decide (l.length≤4)&&(l.all fun c=>LET.contains c)&&decide (signs l=sortT (ddl (signs l)))
def isw (l m:List Nat)(most:Int):Bool:=decide ((l.length:Int)≤most)&&l.all fun c=>m.contains c
def tellG:List Nat→List Nat→Bool
 | _,[]=>true
 | last,c::r=>decide (c∈LET)&&decide (last < [c])&&tellG [c] r
def tellsB (l:List Nat):Bool:=decide (1≤l.length)&&decide (l.length≤4)&&tellG [] l
theorem one_lt {a b:Nat}:([a] < [b])↔a<b:=by
 constructor
 ·intro h;cases h with
  | rel h=>exact h
  | cons h=>cases h
 ·exact fun h=>List.Lex.rel h
theorem tell_iff:∀(l:List Nat) (d:Nat),tellG [d] l=true↔(∀c∈l,c∈LET)∧(d::l).Pairwise (· < ·)
 | [],d=>by simp[tellG]
 | c::r,d=>by
  rw[tellG,Bool.and_eq_true,Bool.and_eq_true,decide_eq_true_iff,decide_eq_true_iff,one_lt,tell_iff r c]
  simp only[List.pairwise_cons,List.mem_cons,forall_eq_or_imp]
  constructor
  ·rintro⟨⟨h1,h2⟩,h3,h4,h5⟩
   exact⟨⟨h1,h3⟩,⟨h2,fun x hx=>Nat.lt_trans h2 (h4 x hx)⟩,h4,h5⟩
  ·rintro⟨⟨h1,h3⟩,⟨h2,_⟩,h4,h5⟩
   exact⟨⟨h1,h2⟩,h3,h4,h5⟩
theorem tell0_iff (l:List Nat):tellG [] l=true↔(∀c∈l,c∈LET)∧l.Pairwise (· < ·):=by
 cases l with
 | nil=>simp[tellG]
 | cons c r=>
  rw[tellG,Bool.and_eq_true,Bool.and_eq_true,decide_eq_true_iff,decide_eq_true_iff,tell_iff r c]
  simp only[List.mem_cons,forall_eq_or_imp]
  constructor
  ·rintro⟨⟨h1,_⟩,h3,h4⟩;exact⟨⟨h1,h3⟩,h4⟩
  ·rintro⟨⟨h1,h3⟩,h4⟩;exact⟨⟨h1,by simp⟩,h3,h4⟩
theorem foldl_addT:∀(ls acc:List (List Nat)),(acc++ls).Nodup→ls.foldl addT acc=acc++ls
 | [],acc,_=>by simp
 | x::ls,acc,h=>by
  have hx:¬x∈acc:=by
   rw[List.nodup_append]at h
   exact fun hm=>h.2.2 x hm x List.mem_cons_self rfl
  rw[List.foldl_cons,addT,if_neg hx,foldl_addT ls (acc++[x]) (by simpa using h)]
  simp
theorem signs_nodup {l:List Nat}(h:l.Pairwise (· < ·)):(signs l).Nodup:=by
 unfold signs List.Nodup
 rw[List.pairwise_map]
 exact h.imp fun hab e=>by injection e with e;omega
theorem ddl_nodup (ls:List (List Nat)):(ddl ls).Nodup:=by rw[←dd_list];exact dd_nodup _
theorem sorted_iff (l:List Nat):signs l=sortT (ddl (signs l))↔l.Pairwise (· < ·):=by
 constructor
 ·intro e
  have h1:(signs l).Pairwise (fun a b=>leT a b=true):=by rw[e];exact sortT_sorted _
  have h2:(signs l).Nodup:=by rw[e];exact(sortT_perm _).nodup_iff.mpr (ddl_nodup _)
  unfold signs at h1
  unfold signs List.Nodup at h2
  rw[List.pairwise_map]at h1 h2
  refine(h1.and h2).imp ?_
  rintro a b ⟨x,y⟩
  have y':a≠b:=fun e=>y (by rw[e])
  have x':¬([b] < [a]):=by simpa [leT] using x
  rw[one_lt]at x'
  omega
 ·intro h
  have e:ddl (signs l)=signs l:=by unfold ddl;rw[foldl_addT _ _ (by simpa using signs_nodup h)];simp
  rw[e]
  refine sortT_uniq (List.Perm.refl _) ?_
  unfold signs
  rw[List.pairwise_map]
  refine h.imp fun {a b} hab=>?_
  have:¬([b] < [a]):=by rw[one_lt];omega
  simpa [leT] using this
theorem isk_tells (l:List Nat):isk l=tellsB l:=by
 have h1:(l.all fun c=>LET.contains c)=decide (∀c∈l,c∈LET):=by
  rw[Bool.eq_iff_iff,List.all_eq_true,decide_eq_true_iff]
  simp
 have h2:decide (signs l=sortT (ddl (signs l)))=decide (l.Pairwise (· < ·)):=by rw[Bool.eq_iff_iff,decide_eq_true_iff,decide_eq_true_iff,sorted_iff]
 have h3:tellG [] l=(decide (∀c∈l,c∈LET)&&decide (l.Pairwise (· < ·))):=by rw[Bool.eq_iff_iff,Bool.and_eq_true,decide_eq_true_iff,decide_eq_true_iff,tell0_iff]
 unfold isk tellsB
 rw[h1,h2,h3,Bool.and_assoc]
theorem all_range (l m:List Nat):((List.range l.length).map (fun i=>decide (l.getD i 0∈m))).all id=l.all fun c=>m.contains c:=by
 rw[Bool.eq_iff_iff,List.all_eq_true,List.all_eq_true]
 constructor
 ·intro h c hc
  obtain⟨i,hi,rfl⟩:=List.mem_iff_getElem.mp hc
  have:=h _ (List.mem_map_of_mem (List.mem_range.mpr hi))
  simpa [List.getD_eq_getElem?_getD,List.getElem?_eq_getElem hi] using this
 ·intro h b hb
  obtain⟨i,hi,rfl⟩:=List.mem_map.mp hb
  have hi:=List.mem_range.mp hi
  have:=h _ (List.getElem_mem hi)
  simpa [List.getD_eq_getElem?_getD,List.getElem?_eq_getElem hi] using this
def cell (ns:List Int)(k:Int):Int:=ns.getD k.toNat 0
theorem atI_map {ns:List Int}{k:Int}(h0:0≤k)(h1:k<ns.length):atI (ns.map V.int) k=some (.int (cell ns k)):=by
 have hk:k.toNat<ns.length:=by omega
 unfold atI ixN cell
 rw[List.length_map,if_pos h0,if_pos h1,Option.bind_some,List.getElem?_map,List.getD_eq_getElem?_getD,List.getElem?_eq_getElem hk]
 rfl
theorem lenTx {K:PySem.W.Frag}{H:Hp}{l:List Nat}(h:l.length≤1000):LenV K (tx l) H l.length:=by
 have e:(⟨l.toArray⟩:Str).length=l.length:=by simp[Str.length]
 have:l.length≤sizeLine:=Nat.le_trans h (by rw[sizeLine_eq];decide)
 exact⟨by rw[e];exact this,e.symm⟩
theorem cm {x y m:Int}(h:0<m)(h2:m≤2 ^ 64):CMul (x % m) y:=.inl ⟨by have:=Int.emod_nonneg x (show m≠0 by omega);omega,by have:=Int.emod_lt_of_pos x h;omega⟩
theorem kit_ss {K:PySem.W.Frag}{t:Value}:PySem.W.kitOne K t t=some true:=by unfold PySem.W.kitOne;simp
theorem atI_ok {α:Type}{xs:List α}{i:Int}(h0:0≤i)(h1:i<xs.length):∃v,atI xs i=some v∧v∈xs:=by
 have hi:i.toNat<xs.length:=by omega
 refine⟨xs[i.toNat],?_,List.getElem_mem hi⟩
 unfold atI ixN
 rw[if_pos h0,if_pos h1,Option.bind_some,List.getElem?_eq_getElem hi]
theorem flat_tx (xs:List (List Nat)):(xs.map tx).all flatV=true:=by
 rw[List.all_eq_true]
 intro v hv
 obtain⟨x,_,rfl⟩:=List.mem_map.mp hv
 rfl
theorem same_upd3 {H H2:Hp}{e:Addr}{o':HO}(s:Same H H2)(h:H e=none):Same H (upd H2 e o'):=fun b u hb=>by
 have:b≠e:=fun z=>by rw[z,h]at hb;cases hb
 rw[upd_ne this];exact s _ _ hb
theorem filt_range {α:Type}(p:α→Bool)(d:α)(ls:List α):((List.range ls.length).filter fun i=>p (ls.getD i d)).map (fun i=>ls.getD i d)=ls.filter p:=by
 have e:(List.range ls.length).map (fun i=>ls.getD i d)=ls:=by
  apply List.ext_getElem
  ·simp
  ·intro i h1 h2
   simp[h2]
 have h:=List.filter_map (p:=p) (f:=fun i=>ls.getD i d) (l:=List.range ls.length)
 rw[e]at h
 rw[h]
 rfl
theorem getD_tx {ls:List (List Nat)}{k:Nat}(h:k<ls.length):(ls.map tx).getD k V.non=tx (ls.getD k []):=by
 rw[List.getD_eq_getElem?_getD,List.getElem?_map,List.getD_eq_getElem?_getD,List.getElem?_eq_getElem h]
 rfl
theorem inV_tx {x:List Nat}{ls:List (List Nat)}:inV (tx x) (ls.map tx)=decide (x∈ls):=by
 unfold inV
 rw[Bool.eq_iff_iff,List.any_eq_true,decide_eq_true_iff]
 constructor
 ·rintro⟨y,hy,e⟩
  obtain⟨l,hl,rfl⟩:=List.mem_map.mp hy
  rw[eqV_tx,decide_eq_true_iff,tx_inj]at e
  rw[←e];exact hl
 ·intro h
  exact⟨tx x,List.mem_map_of_mem h,by rw[eqV_tx];exact decide_eq_true rfl⟩
theorem deqs_tx:∀(xs ys:List (List Nat)),deqs ((xs.map tx).map DT.f) ((ys.map tx).map DT.f)=decide (xs=ys)
 | [],[]=>by unfold deqs;rfl
 | [],y::ys=>by simp only[List.map_cons,List.map_nil];unfold deqs;rfl
 | x::xs,[]=>by simp only[List.map_cons,List.map_nil];unfold deqs;rfl
 | x::xs,y::ys=>by
  simp only[List.map_cons]
  unfold deqs
  rw[deqs_tx xs ys]
  have e:deq (DT.f (tx x)) (DT.f (tx y))=decide (x=y):=by
   unfold deq
   rw[←dec_tx]
   show ((⟨x.toArray⟩:Str) == ⟨y.toArray⟩)=_
   rw[Bool.eq_iff_iff,beq_iff_eq,decide_eq_true_iff]
   exact⟨fun h=>by unfold tx;rw[h],fun h=>by unfold tx at h;injection h⟩
  rw[e,Bool.eq_iff_iff,Bool.and_eq_true,decide_eq_true_iff,decide_eq_true_iff,decide_eq_true_iff,List.cons.injEq]
theorem neL_tx {K:PySem.W.Frag}{H:Hp}{Q:VK}{a b:Addr}{xs:List (List Nat)}(h1:SqL K H a (xs.map tx))(h2:SqL K H b (xs.map tx))(q:Q (.bl false) H):rEqD K true (.ref a) (.ref b) H Q:=
 .inr ⟨_,_,datL h1 (flat_tx _),datL h2 (flat_tx _),fun z=>Bool.false_ne_true z.1,(ownL h1 (flat_tx _)).2.2,by
  unfold deq
  rw[deqs_tx,decide_eq_true rfl]
  exact q⟩
theorem cutV_ints {ns:List Int}{lo hi:Option Int}{v:V}(h:v∈cutV (ns.map V.int) lo hi):∃c,v=.int c:=by
 have h2:v∈ns.map V.int:=List.mem_of_mem_drop (List.mem_of_mem_take h)
 obtain⟨c,_,rfl⟩:=List.mem_map.mp h2
 exact⟨c,rfl⟩
theorem eqL_tx {K:PySem.W.Frag}{H:Hp}{Q:VK}{a b:Addr}{xs ys:List (List Nat)}(h1:SqL K H a (xs.map tx))(h2:SqL K H b (ys.map tx))(q:Q (.bl (decide (xs=ys))) H):rEqD K false (.ref a) (.ref b) H Q:=
 .inr ⟨_,_,datL h1 (flat_tx _),datL h2 (flat_tx _),fun z=>Bool.false_ne_true z.1,(ownL h1 (flat_tx _)).2.2,by
  unfold deq
  rw[deqs_tx]
  exact q⟩
theorem let_str:V.str (Str.ofString "abcdefghijklmnopqrstuvwxyz")=tx LET:=congrArg V.str (by decide +kernel)
theorem ddl_len (l:List Nat):(ddl (signs l)).length≤l.length:=by
 have:∀(ls acc:List (List Nat)),(ls.foldl addT acc).length≤acc.length+ls.length:=by
  intro ls
  induction ls with
  | nil=>intro acc;simp
  | cons x ls ih=>
   intro acc
   rw[List.foldl_cons]
   refine Nat.le_trans (ih _) ?_
   unfold addT
   split<;>simp<;>omega
 have h:=this (signs l) []
 unfold ddl
 unfold signs at h ⊢
 simpa using h
theorem signs_length (l:List Nat):(signs l).length=l.length:=by unfold signs;rw[List.length_map]
theorem kit_is {K:PySem.W.Frag}:PySem.W.kitOne K (.type "int") (.type "str")=some false:=by rfl
theorem kit_ib {K:PySem.W.Frag}:PySem.W.kitOne K (.type "int") (.type "bool")=some false:=by rfl
theorem kt:¬(("own_text":Str)="own_kinds"):=by decide +kernel
structure StripOk (l m:List Nat):Prop where
 k:isk m=true
 m1:1≤m.length
 m4:m.length≤4
 l40:l.length≤40
 mem:∀x∈l,x∈m
theorem let_at:∀k,k<26→LET[k]?=some (97+k):=by decide
theorem let_mem {c:Nat}(h1:97≤c)(h2:c≤122):c∈LET:=by
 have:=let_at (c-97) (by omega)
 have e:97+(c-97)=c:=by omega
 rw[e]at this
 exact List.mem_of_getElem? this
theorem isk_of {m:List Nat}(h1:1≤m.length)(h4:m.length≤4)(hm:∀c∈m,c∈LET)(hp:m.Pairwise (· < ·)):isk m=true:=by
 rw[isk_tells]
 unfold tellsB
 rw[(tell0_iff m).mpr ⟨hm,hp⟩]
 simp[h1,h4]
theorem iteT' {p q:Prop}[Decidable True](h:p):if True then p else q:=by rw[if_pos True.intro];exact h
theorem eq_tx {K:PySem.W.Frag}{H:Hp}{Q:VK}{x:List Nat}(h:Q (.bl true) H):rEqD K false (tx x) (tx x) H Q:=.inl ⟨rfl,by rw[if_neg Bool.false_ne_true,decide_eq_true rfl];exact h⟩
theorem take_next {α:Type}{l:List α}{i:Nat}{x:α}(h:l[i]?=some x):l.take (i+1)=l.take i++[x]:=by rw[List.take_succ,h];rfl
def fs1 (f:Str):List V→List (Str×V):=fun r=>putF f (r.getD 0 .non) []
theorem fs1_get {f:Str}{vs:List V}:(fs1 f vs).lookup f=some (vs.getD 0 .non):=by unfold fs1;rw[lookup_putF,if_pos rfl]
def SelfEq (K:PySem.W.Frag)(H:Hp)(v:V):Prop:=(∃d,Own K H d v)∨∃(a:Addr) (kvs:List (Key×V)),v=.ref a∧H a=some (.dK kvs)
def Oth (K:PySem.W.Frag)(H:Hp)(v:V):Prop:=∃T b,TyX K H v (.type T)∧PySem.W.kitOne K (.type T) (.type "str")=some false∧PySem.W.kitOne K (.type T) (.type "bool")=some b∧SelfEq K H v
def BadK (K:PySem.W.Frag)(H:Hp)(v:V):Prop:=(∃l:List Nat,v=tx l∧l.length≤1000∧isk l=false)∨Oth K H v
def BadW (K:PySem.W.Frag)(H:Hp)(v:V)(m:List Nat)(most:Int):Prop:=(∃l:List Nat,v=tx l∧l.length≤1000∧isw l m most=false)∨Oth K H v
def XNk (a:Ad)(E:XK)(H:Hp):Prop:=∀e H2,Same H H2→XAny H2 e a.c_NoKinds []→E (.ref a.c_NoKinds) (some e) H2
structure KOk (m:List Nat):Prop where
 k:isk m=true
 m1:1≤m.length
 m4:m.length≤4
theorem KOk.lets {m:List Nat}(h:KOk m):∀c∈m,97≤c∧c≤122:=by
 have h1:=h.k
 rw[isk_tells]at h1
 unfold tellsB at h1
 rw[Bool.and_eq_true]at h1
 intro c hc
 have:=((tell0_iff m).mp h1.2).1 c hc
 have h:∀c∈LET,97≤c∧c≤122:=by decide
 exact h c this
theorem isw_out {l m:List Nat}{c:Nat}{most:Int}(h:c∈l)(hc:c∉m):isw l m most=false:=by
 unfold isw
 rw[Bool.and_eq_false_iff]
 right
 rw[List.all_eq_false]
 exact⟨c,h,by simpa using hc⟩
theorem isw_long {l m:List Nat}{most:Int}(h:most<l.length):isw l m most=false:=by
 unfold isw
 rw[Bool.and_eq_false_iff]
 left
 rw[decide_eq_false_iff_not]
 omega
theorem isw_yes {l m:List Nat}{most:Int}(h:(l.length:Int)≤most)(hm:∀x∈l,x∈m):isw l m most=true:=by
 unfold isw
 rw[Bool.and_eq_true,decide_eq_true_iff,List.all_eq_true]
 exact⟨h,fun x hx=>by simpa using hm x hx⟩
theorem same_upd2 {H:Hp}{e:Addr}{o o':HO}(h:H e=none):Same H (upd (upd H e o) e o'):=fun b u hb=>by
 have:b≠e:=fun z=>by rw[z,h]at hb;cases hb
 rw[upd_ne this,upd_ne this];exact hb
theorem raise_any {H:Hp}{e C:Addr}{fs:List (Str×V)}(x:XAt H e C fs):∃d,H e=some (xo e C d)∧XAny (upd H e (xr e C d)) e C fs:=by
 cases x with
 | bare h=>exact⟨none,h,.bare upd_same⟩
 | @full d _ h1 h2 h3=>exact⟨some d,h1,.full upd_same (by rw[upd_ne h3];exact h2) h3⟩
theorem TyX.same {K:PySem.W.Frag}{H H':Hp}{v:V}{t:Value}(h:TyX K H v t)(s:Same H H'):TyX K H' v t:=by
 cases h with
 | pl h=>
  refine .pl ?_
  cases h with
  | non=>exact .non
  | bl x=>exact .bl x
  | int i=>exact .int i
  | str x=>exact .str x
  | flt x=>exact .flt x
  | lst e=>exact .lst (s _ _ e)
  | frz e=>exact .frz (s _ _ e)
  | tup e=>exact .tup (s _ _ e)
  | dK e=>exact .dK (s _ _ e)
  | dT e=>exact .dT (s _ _ e)
  | ins e cl ha hn htk hm=>exact .ins (s _ _ e) cl ha hn htk hm
 | seqL h=>exact .seqL (s.seq h)
 | seqT h=>exact .seqT (s.seqT h)
 | exc x i=>exact .exc (x.same s) i
theorem Oth.same {K:PySem.W.Frag}{H H':Hp}{v:V}(o:Oth K H v)(s:Same H H'):Oth K H' v:=by
 obtain⟨T,b,ty,kt,kb,se⟩:=o
 refine⟨T,b,TyX.same ty s,kt,kb,?_⟩
 rcases se with⟨d,o⟩|⟨b,kvs,rfl,hb⟩
 ·exact .inl ⟨d,o.same s⟩
 ·exact .inr ⟨b,kvs,rfl,s _ _ hb⟩
theorem BadW.same {K:PySem.W.Frag}{H H':Hp}{v:V}{m:List Nat}{most:Int}(o:BadW K H v m most)(s:Same H H'):BadW K H' v m most:=o.imp id fun o=>o.same s
theorem kit_bs {K:PySem.W.Frag}:PySem.W.kitOne K (.type "bool") (.type "str")=some false:=by rfl
theorem kit_ns {K:PySem.W.Frag}:PySem.W.kitOne K (.type "NoneType") (.type "str")=some false:=by rfl
theorem kit_ls {K:PySem.W.Frag}:PySem.W.kitOne K (.type "list") (.type "str")=some false:=by rfl
theorem kit_tus {K:PySem.W.Frag}:PySem.W.kitOne K (.type "tuple") (.type "str")=some false:=by rfl
theorem kit_ds {K:PySem.W.Frag}:PySem.W.kitOne K (.type "dict") (.type "str")=some false:=by rfl
theorem kit_nb {K:PySem.W.Frag}:PySem.W.kitOne K (.type "NoneType") (.type "bool")=some false:=by rfl
theorem kit_lb {K:PySem.W.Frag}:PySem.W.kitOne K (.type "list") (.type "bool")=some false:=by rfl
theorem kit_tub {K:PySem.W.Frag}:PySem.W.kitOne K (.type "tuple") (.type "bool")=some false:=by rfl
theorem kit_db {K:PySem.W.Frag}:PySem.W.kitOne K (.type "dict") (.type "bool")=some false:=by rfl
theorem kit_sb {K:PySem.W.Frag}:PySem.W.kitOne K (.type "str") (.type "bool")=some false:=by rfl
theorem oth_int {K:PySem.W.Frag}{H:Hp}{i:Int}:Oth K H (.int i):=⟨"int",false,.pl (.int _),kit_is,kit_ib,.inl ⟨_,ownF rfl⟩⟩
theorem oth_bl {K:PySem.W.Frag}{H:Hp}{i:Bool}:Oth K H (.bl i):=⟨"bool",true,.pl (.bl _),kit_bs,kit_ss,.inl ⟨_,ownF rfl⟩⟩
theorem oth_non {K:PySem.W.Frag}{H:Hp}:Oth K H .non:=⟨"NoneType",false,.pl .non,kit_ns,kit_nb,.inl ⟨_,ownF rfl⟩⟩
theorem oth_lst {K:PySem.W.Frag}{H:Hp}{a:Addr}{xs:List V}(h:H a=some (.lst xs))(hf:xs.all flatV=true):Oth K H (.ref a):=⟨"list",false,.seqL (.mk h),kit_ls,kit_lb,.inl ⟨_,ownL (.mk h) hf⟩⟩
theorem oth_tup {K:PySem.W.Frag}{H:Hp}{a:Addr}{xs:List V}(h:H a=some (.tup xs))(hf:xs.all flatV=true):Oth K H (.ref a):=⟨"tuple",false,.seqT (.mk h),kit_tus,kit_tub,.inl ⟨_,ownT (.mk h) hf⟩⟩
theorem oth_dK {K:PySem.W.Frag}{H:Hp}{a:Addr}{kvs:List (Key×V)}(h:H a=some (.dK kvs)):Oth K H (.ref a):=⟨"dict",false,.pl (.dK h),kit_ds,kit_db,.inr ⟨_,_,rfl,h⟩⟩
theorem len_sub:∀(l m:List Nat),l.Nodup→(∀x∈l,x∈m)→l.length≤m.length
 | [],m,_,_=>Nat.zero_le _
 | x::l,m,nd,h=>by
  have hx:=h x List.mem_cons_self
  have nd':=List.nodup_cons.mp nd
  have:=len_sub l (m.erase x) nd'.2 fun y hy=>(List.mem_erase_of_ne (fun e=>by rw[e]at hy;exact nd'.1 hy)).mpr (h y (List.mem_cons_of_mem _ hy))
  rw[List.length_erase_of_mem hx]at this
  have pos:0<m.length:=List.length_pos_of_mem hx
  rw[List.length_cons]
  omega
theorem odd_ex {m A:List Nat}(nd:A.Nodup)(h:m.length<A.length):∃c rest,((List.range A.length).filter fun i=>!decide (A.getD i 0∈m)).map (fun i=>tx [A.getD i 0])=tx [c]::rest∧c∉m∧c∈A:=by
 have e:((List.range A.length).filter fun i=>!decide (A.getD i 0∈m)).map (fun i=>tx [A.getD i 0])=(A.filter fun c=>!decide (c∈m)).map fun c=>tx [c]:=by
  rw[←filt_range (fun c=>!decide (c∈m)) 0 A,List.map_map]
  rfl
 rw[e]
 cases z:A.filter fun c=>!decide (c∈m) with
 | nil=>
  have:=len_sub A m nd fun x hx=>by
   have:=List.filter_eq_nil_iff.mp z x hx
   simpa using this
  omega
 | cons c r=>
  have hc:c∈A.filter fun c=>!decide (c∈m):=by rw[z];exact List.mem_cons_self
  obtain⟨h1,h2⟩:=List.mem_filter.mp hc
  exact⟨c,_,rfl,by simpa using h2,h1⟩
theorem first_ex {m:List Nat}(h:1≤m.length):∃c,atI m 0=some c∧c∈m:=atI_ok (Int.le_refl _) (by omega)
theorem rep1 (c:Nat)(n:Int):repT [c] n=List.replicate n.toNat c:=by
 unfold repT
 generalize n.toNat=k
 induction k with
 | zero=>rfl
 | succ k ih=>rw[List.replicate_succ,List.flatten_cons,ih,List.replicate_succ];rfl
theorem KOk.out {m:List Nat}(h:KOk m){c:Nat}(hc:¬(97≤c∧c≤122)):c∉m:=fun z=>hc (h.lets c z)
theorem atI0 {α:Type}{x:α}{xs:List α}:atI (x::xs) 0=some x:=by
 unfold atI ixN
 rw[if_pos (Int.le_refl _),if_pos (by rw[List.length_cons];omega)]
 rfl
theorem let_at4:∀k<26,LET.getD k 0=97+k:=by decide
theorem let_mem4 {x:Nat}(h1:97≤x)(h2:x≤122):x∈LET:=by
 have h:∀k,k<26→97+k∈LET:=by decide
 have h3:=h (x-97) (by omega)
 rwa [show 97+(x-97)=x by omega]at h3
theorem atI_getD {m:List Nat}{i:Int}(h0:0≤i)(h1:i<m.length):atI m i=some (m.getD i.toNat 0):=by
 have h:i.toNat<m.length:=by omega
 unfold atI ixN
 rw[if_pos h0,if_pos h1,Option.bind_some,List.getD_eq_getElem?_getD,List.getElem?_eq_getElem h]
 rfl
def avB (ws:List (List Nat))(w:List Nat):Bool:=!(ws.any fun p=>infB p w)
theorem with_tailI {G:Prop}{T C:Int→Prop}(h1:(∀n,C n→T n)→G)(h2:∀n,C n→T n):G:=h1 h2
def keyT (s:List Nat):List Key:=s.map fun (i:Nat)=>(Sum.inl ((i:Nat):Int):Key)
def numK (sp:List (List Nat)):List (List Key×V):=sp.zipIdx.map fun p=>(keyT p.1,V.int ((p.2:Nat):Int))
structure RInv (H:Hp)(ps pw pn:Addr)(l:List Nat)(sp ws:List (List Nat))(ts:List Addr):Prop where
 hs:H ps=some (.lst (ts.map V.ref))
 hw:H pw=some (.lst (ws.map tx))
 hn:H pn=some (.dT (numK sp))
 tl:ts.length=sp.length
 tt:∀(i:Nat) (t:Addr) (s:List Nat),ts[i]?=some t→sp[i]?=some s→H t=some (.tup (s.map fun (i:Nat)=>V.int i))
 wl:ws.length=sp.length
 wt:∀(i:Nat) (w s:List Nat),ws[i]?=some w→sp[i]?=some s→s=spotsAt l w∧Inf w l
 nd:sp.Nodup
 f0:sp[0]?=some (firstS l)
theorem let8_at:∀k<8,([97,98,99,100,101,102,103,104]:List Nat).getD k 0=97+k:=by decide
theorem kTx_inj {x y:List Nat}(e:kTx x=kTx y):x=y:=by unfold kTx at e;injection e with e;injection e with e;injection e
def Tame (K:PySem.W.Frag)(H:Hp)(v:V):Prop:=∃T b,TyX K H v (.type T)∧PySem.W.kitOne K (.type T) (.type "bool")=some b∧SelfEq K H v
theorem tame_tx {K:PySem.W.Frag}{H:Hp}{l:List Nat}:Tame K H (tx l):=⟨"str",false,.pl (.str _),kit_sb,.inl ⟨_,ownF rfl⟩⟩
theorem Oth.tame {K:PySem.W.Frag}{H:Hp}{v:V}(o:Oth K H v):Tame K H v:=let ⟨T,b,ty,_,kb,se⟩:=o;⟨T,b,ty,kb,se⟩
theorem BadW.tame {K:PySem.W.Frag}{H:Hp}{v:V}{m:List Nat}{most:Int}(o:BadW K H v m most):Tame K H v:=by
 rcases o with⟨l,rfl,_⟩ | o
 ·exact tame_tx
 ·exact Oth.tame o
theorem own_lv {CX:CXT}{P:Program}{w:World}{K:PySem.W.Frag}{mg:Str→Option Value}{base:Heap}{N:List Str}{qual:Str}{scope:Scope}{f:Addr}{cd:Value}{A:Around}{outer:List Env}{s:Shared}{H:Hp}{E:XK}:
  PassesOwn (model (cxOf CX P w K mg base N qual scope f cd A outer s H E).prog (cxOf CX P w K mg base N qual scope f cd A outer s H E).w) (cxOf CX P w K mg base N qual scope f cd A outer s H E).A (cxOf CX P w K mg base N qual scope f cd A outer s H E).env (cxOf CX P w K mg base N qual scope f cd A outer s H E).xe:=PassesOwn.leaving
def L9:List Nat:=[97,98,99,100,101,102,103,104,105]
def GoodL (m:List Nat)(ws:List (List Nat)):Prop:=ws.Nodup∧∀w∈ws,w≠[]∧w.length≤41∧∀x∈w,x∈m
def NotL (K:PySem.W.Frag)(H:Hp)(v:V):Prop:=(∃T,TyX K H v (.type T)∧PySem.W.kitOne K (.type T) (.type "list")=some false)∨∃p xs,v=.ref p∧H p=some (.lst xs)∧200<xs.length∧xs.length≤1000
def Spoil (K:PySem.W.Frag)(H:Hp)(m:List Nat)(ws:List (List Nat))(x:V):Prop:=BadW K H x m 41∨x=tx []∨∃w∈ws,x=tx w
def XNl (a:Ad)(E:XK)(H:Hp)(v:V):Prop:=∀e H2,Same H H2→XAny H2 e a.c_NoList (fs1 "word" [v])→E (.ref a.c_NoList) (some e) H2
theorem Spoil.same {K:PySem.W.Frag}{H H':Hp}{m:List Nat}{ws:List (List Nat)}{x:V}(o:Spoil K H m ws x)(s:Same H H'):Spoil K H' m ws x:=o.imp (fun o=>o.same s) id
theorem Spoil.tame {K:PySem.W.Frag}{H:Hp}{m:List Nat}{ws:List (List Nat)}{x:V}(o:Spoil K H m ws x):Tame K H x:=by
 rcases o with o | rfl | ⟨w,_,rfl⟩
 ·exact o.tame
 ·exact tame_tx
 ·exact tame_tx
theorem GoodL.take {m:List Nat}{ws:List (List Nat)}(h:GoodL m ws)(k:Nat):GoodL m (ws.take k):=⟨h.1.sublist (List.take_sublist _ _),fun w hw=>h.2 w (List.mem_of_mem_take hw)⟩
theorem GoodL.isw {m:List Nat}{ws:List (List Nat)}(h:GoodL m ws){w:List Nat}(hw:w∈ws):isw w m 41=true:=isw_yes (by have:=(h.2 w hw).2.1;omega) (h.2 w hw).2.2
theorem eq_bl {K:PySem.W.Frag}{H:Hp}{Q:VK}{x:Bool}(h:Q (.bl true) H):rEqD K false (.bl x) (.bl x) H Q:=.inl ⟨rfl,by rw[if_neg Bool.false_ne_true,decide_eq_true rfl];exact h⟩
theorem isk_rise {m:List Nat}(h:isk m=true):m.Pairwise (· < ·):=by
 rw[isk_tells]at h
 unfold tellsB at h
 rw[Bool.and_eq_true]at h
 exact((tell0_iff m).mp h.2).2
theorem isk_nodup {m:List Nat}(h:isk m=true):m.Nodup:=(isk_rise h).imp fun hab e=>by omega
theorem cutV_to (xs:List V)(n:Nat):cutV xs none (some (n:Int))=xs.take n:=cut_to xs n
theorem cutV_from (xs:List V)(n:Nat):cutV xs (some (n:Int)) none=xs.drop n:=cut_from xs n
theorem bf_good {m:List Nat}(ok:KOk m){n i:Nat}(h1:m.length=1→n≤39)(hn:n≤201):GoodL m ((bf m i).take n):=by
 have nd:=isk_nodup ok.k
 refine⟨(List.nodup_cons.mp (bf_nodup ok.m1 nd i)).2.sublist (List.take_sublist _ _),fun w hw=>?_⟩
 have hw':=List.mem_of_mem_take hw
 refine⟨bf_ne ok.m1 nd hw',?_,bf_mem i w (List.mem_cons_of_mem _ hw')⟩
 obtain⟨j,hj,e⟩:=List.getElem_of_mem hw
 rw[List.getElem_take]at e
 rw[List.length_take]at hj
 have e2:([]::bf m i)[j+1]?=some w:=by rw[List.getElem?_cons_succ,List.getElem?_eq_getElem (by omega),e]
 rcases bf_size ok.m1 i (j+1) w e2 with⟨a,b⟩|⟨a,b⟩
 ·have:=h1 a;omega
 ·rcases Nat.lt_or_ge 41 w.length with z | z
  ·have:=Nat.pow_le_pow_right (show 0<2 by decide) z
   have e42:2 ^ 42=4398046511104:=by decide
   omega
  ·exact z
theorem with_tailA {G:Prop}{T C:Addr→Hp→Prop}(h1:(∀t H7,C t H7→T t H7)→G)(h2:∀t H7,C t H7→T t H7):G:=h1 h2
theorem any_inf {l w:List Nat}(hw:w≠[]):((List.range l.length).any fun k=>decide ((l.drop k).take w.length=w))=infB w l:=by
 have hl:1≤w.length:=by cases w with | nil=>exact absurd rfl hw | cons=>simp
 rw[Bool.eq_iff_iff,List.any_eq_true,infB_iff]
 constructor
 ·rintro⟨k,hk,h⟩
  have h:=of_decide_eq_true h
  refine⟨k,?_,h⟩
  have e:=congrArg List.length h
  rw[List.length_take,List.length_drop]at e
  omega
 ·rintro⟨k,h1,h2⟩
  exact⟨k,List.mem_range.mpr (by omega),decide_eq_true h2⟩
theorem any_next (f:Nat→Bool)(j:Nat):(List.range (j+1)).any f=((List.range j).any f || f j):=by
 rw[List.range_succ,List.any_append];simp
theorem avB_next {ws:List (List Nat)}{w l:List Nat}{i:Nat}(h:ws[i]?=some w):avB (ws.take (i+1)) l=(avB (ws.take i) l&&!infB w l):=by
 unfold avB
 rw[take_next h,List.any_append]
 simp
theorem cutV_46 (xs:List V):(cutV xs (some 1) (some 47)).length≤46:=by
 have e:cutV xs (some 1) (some 47)=(xs.drop 1).take 46:=cut_nn xs 1 47
 rw[e,List.length_take]
 omega
theorem at3 (r:Int):∃k:Int,1≤k∧k≤41∧atI [V.int 3,V.int 8,V.int 41] (r % 3)=some (.int k):=by
 have h:r % 3=0∨r % 3=1∨r % 3=2:=by omega
 rcases h with h | h | h<;>rw[h]
 ·exact⟨3,by decide,by decide,rfl⟩
 ·exact⟨8,by decide,by decide,rfl⟩
 ·exact⟨41,by decide,by decide,rfl⟩
theorem GoodL.snoc {m:List Nat}{ws:List (List Nat)}{w:List Nat}(h:GoodL m ws)(hn:w∉ws)(h1:w≠[])(h2:w.length≤41)(h3:∀x∈w,x∈m):GoodL m (ws++[w]):=by
 refine⟨?_,fun u hu=>?_⟩
 ·rw[List.nodup_append]
  exact⟨h.1,by simp,fun a ha c hc e=>hn (by rw[List.mem_singleton.mp hc]at e;exact e▸ha)⟩
 ·rcases List.mem_append.mp hu with z | z
  ·exact h.2 u z
  ·rw[List.mem_singleton.mp z];exact⟨h1,h2,h3⟩
theorem tame_non {K:PySem.W.Frag}{H:Hp}:Tame K H .non:=oth_non.tame
theorem eqT_same {K:PySem.W.Frag}{H:Hp}{Q:VK}{a b:Addr}{vs:List V}(h1:SqT K H a vs)(h2:SqT K H b vs)(hf:vs.all flatV=true)(q:Q (.bl true) H):rEqD K false (.ref a) (.ref b) H Q:=
 .inr ⟨_,_,datT h1 hf,datT h2 hf,fun z=>Bool.false_ne_true z.1,(ownT h1 hf).2.2,by rw[(ownT h1 hf).2.1];exact q⟩
theorem with_tailW {G:Prop}{T C:V→Hp→Prop}(h1:(∀v H,C v H→T v H)→G)(h2:∀v H,C v H→T v H):G:=h1 h2
theorem with_tailH {G:Prop}{T C:Hp→Prop}(h1:(∀H,C H→T H)→G)(h2:∀H,C H→T H):G:=h1 h2
theorem self_flat {K:PySem.W.Frag}{H:Hp}{v:V}(h:SelfEq K H v):flatV v=true∨∃c,v=.ref c:=by
 rcases h with⟨d,o⟩|⟨b,kvs,rfl,_⟩
 ·have z:=o.1
  cases d with
  | f w=>unfold DatOk at z;rw[z.1];exact .inl z.2
  | l ds=>unfold DatOk at z;obtain⟨a,_,e,_⟩:=z;exact .inr ⟨a,e⟩
  | t ds=>unfold DatOk at z;obtain⟨a,_,e,_⟩:=z;exact .inr ⟨a,e⟩
 ·exact .inr ⟨b,rfl⟩
theorem Tame.flat {K:PySem.W.Frag}{H:Hp}{v:V}(h:Tame K H v):flatV v=true∨∃c,v=.ref c:=let ⟨_,_,_,_,s⟩:=h;self_flat s
theorem pick4 {k:Nat}(h1:1≤k)(h4:k≤4):∃(j:Int) (n:Nat),atI [V.int 2,V.int 0,V.int 1,V.int 1] ((k:Int)-1)=some (.int j)∧atI [V.int 200,V.int 200,V.int 39] j=some (.int n)∧n≤200∧(k=1→n≤39):=by
 have h:k=1∨k=2∨k=3∨k=4:=by omega
 rcases h with rfl | rfl | rfl | rfl
 ·exact⟨2,39,rfl,rfl,by decide,fun _=>by decide⟩
 ·exact⟨0,200,rfl,rfl,by decide,fun h=>absurd h (by decide)⟩
 ·exact⟨1,200,rfl,rfl,by decide,fun h=>absurd h (by decide)⟩
 ·exact⟨1,200,rfl,rfl,by decide,fun h=>absurd h (by decide)⟩
def sp_has_only (K:PySem.W.Frag)(a:Ad):Sp:=fun vs H Q _=>∃l m,vs=[tx l,tx m]∧l.length≤1000∧∀H2,Same H H2→Q (.bl (l.all fun c=>m.contains c)) H2
def sp_is_kinds (K:PySem.W.Frag)(a:Ad):Sp:=fun vs H Q _=>∃v,vs=[v]∧((∃l,v=tx l∧l.length≤1000∧∀H2,Same H H2→Q (.bl (isk l)) H2)∨(Oth K H v∧Q (.bl false) H))
def sp_is_word (K:PySem.W.Frag)(a:Ad):Sp:=fun vs H Q _=>∃v m most,vs=[v,tx m,.int most]∧((∃l,v=tx l∧l.length≤1000∧∀H2,Same H H2→Q (.bl (isw l m most)) H2)∨(Oth K H v∧Q (.bl false) H))
def sp_need_kinds (K:PySem.W.Frag)(a:Ad):Sp:=fun vs H Q E=>∃v,vs=[v]∧((∃l,v=tx l∧l.length≤1000∧isk l=true∧∀H2,Same H H2→Q .non H2)∨(BadK K H v∧XNk a E H))
def sp_lcell (K:PySem.W.Frag)(a:Ad):Sp:=fun vs H Q _=>∃(b:Addr) (ns:List Int) (k:Int),vs=[.ref b,.int k]∧SqL K H b (ns.map V.int)∧0≤k∧∀r:Int,Q (.int r) H
def sp_mixed (K:PySem.W.Frag)(a:Ad):Sp:=fun vs H Q _=>∃c k,vs=[.int c,.int k]∧∀r:Int,0≤r→Q (.int r) H
def sp_lkinds (K:PySem.W.Frag)(a:Ad):Sp:=fun vs H Q _=>∃c:Int,vs=[.int c]∧∀m:List Nat,isk m=true→1≤m.length→m.length≤4→Q (tx m) H
def sp_drawn (K:PySem.W.Frag)(a:Ad):Sp:=fun vs H Q _=>∃(c:Int) (d:Bool) (m:List Nat) (n:Int),vs=[.int c,.bl d,tx m,.int n]∧1≤m.length∧m.length≤4∧0≤n∧n≤60∧∀l:List Nat,l.length=n.toNat→(∀x∈l,x∈m)→Q (tx l) H
def sp_need_list (K:PySem.W.Frag)(a:Ad):Sp:=fun vs H Q E=>∃(v u:V),vs=[v,u]∧((∃p ws m,v=.ref p∧u=tx m∧KOk m∧H p=some (.lst (ws.map tx))∧GoodL m ws∧ws.length≤200∧∀H2,Same H H2→Q .non H2)∨(BadK K H u∧XNk a E H)∨(∃m,u=tx m∧KOk m∧NotL K H v∧XNl a E H .non)∨(∃p ws x rest m,v=.ref p∧u=tx m∧KOk m∧H p=some (.lst (ws.map tx++x::rest))∧GoodL m ws∧ws.length+rest.length≤199∧Spoil K H m ws x∧XNl a E H x))
def sp_strip_of (K:PySem.W.Frag)(a:Ad):Sp:=fun vs H Q E=>∃(v u:V),vs=[v,u]∧((BadK K H u∧XNk a E H)∨(∃m,u=tx m∧KOk m∧NotL K H v∧XNl a E H .non)∨(∃p ws x rest m,v=.ref p∧u=tx m∧KOk m∧H p=some (.lst (ws.map tx++x::rest))∧GoodL m ws∧ws.length+rest.length≤199∧Spoil K H m ws x∧XNl a E H x))
def sp_avoids (K:PySem.W.Frag)(a:Ad):Sp:=fun vs H Q _=>∃(b:Addr) (ws:List (List Nat)) (w:List Nat),vs=[.ref b,tx w]∧H b=some (.lst (ws.map tx))∧ws.length≤1000∧w.length≤1000∧∀H2,Same H H2→Q (.bl (avB ws w)) H2
def sp_lwords (K:PySem.W.Frag)(a:Ad):Sp:=fun vs H Q _=>∃(b:Addr) (ns:List Int) (m:List Nat),vs=[.ref b,tx m]∧SqL K H b (ns.map V.int)∧ns.length≤63∧KOk m∧∀p ws H2,Same H H2→H p=none→H2 p=some (.lst (ws.map tx))→GoodL m ws→ws.length≤47→Q (.ref p) H2
def sp_many (K:PySem.W.Frag)(a:Ad):Sp:=fun vs H Q _=>∃(m:List Nat) (n:Nat),vs=[tx m,.int n]∧KOk m∧n≤201∧(m.length=1→n≤39)∧∀p ws H2,Same H H2→H p=none→H2 p=some (.lst (ws.map tx))→GoodL m ws→ws.length=n→Q (.ref p) H2
def sp_thing (K:PySem.W.Frag)(a:Ad):Sp:=fun vs H Q _=>∃(n:Int) (m:List Nat),vs=[.int n,tx m]∧KOk m∧∀v H2,Same H H2→(BadW K H2 v m 41∨v=tx [])→Q v H2
def sp_told (K:PySem.W.Frag)(a:Ad):Sp:=fun vs H Q _=>∃(v u:V) (b:Bool),vs=[v,u,.bl b]∧((BadK K H u∧∀t H2,Same H H2→H2 t=some (.tup [tx [107,105,110,100,115],.non])→Q (.ref t) H2)∨(∃m,u=tx m∧KOk m∧NotL K H v∧∀t H2,Same H H2→H2 t=some (.tup [tx [108,105,115,116],.non])→Q (.ref t) H2)∨(∃p ws x rest m,v=.ref p∧u=tx m∧KOk m∧H p=some (.lst (ws.map tx++x::rest))∧GoodL m ws∧ws.length+rest.length≤199∧Spoil K H m ws x∧∀t H2,Same H H2→H2 t=some (.tup [tx [108,105,115,116],x])→Q (.ref t) H2))
def sp_alike (K:PySem.W.Frag)(a:Ad):Sp:=fun vs H Q _=>∃(t:Addr) (v:V),vs=[.ref t,v]∧H t=some (.tup [tx [108,105,115,116],v])∧Tame K H v∧Q (.bl true) H
def sp_spoiled (K:PySem.W.Frag)(a:Ad):Sp:=fun vs H Q _=>∃(b:Addr) (ws:List (List Nat)) (m:List Nat) (x y:Int),vs=[.ref b,tx m,.int x,.int y]∧H b=some (.lst (ws.map tx))∧GoodL m ws∧ws.length≤200∧KOk m∧0≤x∧0≤y∧∀H2,Same H H2→Q (.bl true) H2
def sp_avoided (K:PySem.W.Frag)(a:Ad):Sp:=fun vs H Q _=>∃(b:Addr) (ws:List (List Nat)) (m:List Nat) (c:Int),vs=[.ref b,tx m,.int c]∧H b=some (.lst (ws.map tx))∧GoodL m ws∧ws.length≤200∧KOk m∧∀H2,Same H H2→Q (.bl true) H2
def spLaw (K:PySem.W.Frag):Sp:=fun vs H Q _=>∃(b:Addr) (ns:List Int),vs=[.ref b]∧SqL K H b (ns.map V.int)∧ns.length≤63∧∀H2,Q (.bl true) H2
section
variable {P:Program}{w:World}{K:PySem.W.Frag}{mg:Str→Option Value}{base:Heap}{a:Ad}
local macro_rules | `(tactic| walk_at "r0") => `(tactic| simp only [tSeq, tAsg, tPar, tOp, tUn, tVar, tC, gName, gNil, gCons, tRet, tRetN, tIfS, tTest, tB, tNot, tAnd, tOr, tAndV, tOrV, tNotV, tIf, tDrop, tNil, tCons, q_lst, q_tup, q_mk0, q_mkI, q_cat, tCall, tCB, tXFld, sXFld, tXInit, tBM, tBM0, tSl, tPart, tNoPart, tNext, L2.start, cxK, bxK, cxPr, cxWo, suxK, suxPr, suxWo, tRaise, tTry, tCallx, sSetx, sExprx, sIfx, hAs, hPlain, hNone, unE, tXFldR, tDisp, tPairs, q_for, q_comp, iRng1, iRng2, iList, iTup, iEnum, iText, gTup, pick, Option.bind_some, Option.bind_none, Option.join_some, Option.join_none, List.map_cons, List.map_nil, List.length_cons, List.length_nil, Nat.zero_add, Nat.reduceAdd, Nat.reduceSub, List.replicate_succ, List.replicate_zero, List.cons_append, List.nil_append, List.append_nil, List.getElem?_cons_zero, List.getElem?_cons_succ, List.set_cons_zero, List.set_cons_succ, q_I, q_I0, q_U, q_T, q_b, q_var, q_var', iZip, q_while, tMake, tMeth, tFld, sFld, sNo, tAug, tChain, sConsx, tMethx, tMakex, tDNewK, sDPut, tDIn, tDNotIn, tDUpd, rMaxD, sThaw, iDict, tDispT1, tDGet, tDGet1, tLst1x])
local macro_rules | `(tactic| walk_at "r1") => `(tactic| dsimp only [tSeq, tAsg, tPar, tOp, tUn, tVar, tC, gName, gNil, gCons, tRet, tRetN, tIfS, tTest, tB, tNot, tAnd, tOr, tAndV, tOrV, tNotV, tIf, tDrop, tNil, tCons, q_lst, q_tup, q_mk0, q_mkI, q_cat, tCall, tCB, tXFld, sXFld, tXInit, tBM, tBM0, tSl, tPart, tNoPart, tNext, L2.start, cxK, bxK, cxPr, cxWo, suxK, suxPr, suxWo, tRaise, tTry, tCallx, sSetx, sExprx, sIfx, hAs, hPlain, hNone, unE, tXFldR, tDisp, tPairs, q_for, q_comp, iRng1, iRng2, iList, iTup, iEnum, iText, gTup, pick, Option.bind_some, Option.bind_none, Option.join_some, Option.join_none, List.map_cons, List.map_nil, List.length_cons, List.length_nil, Nat.zero_add, Nat.reduceAdd, Nat.reduceSub, List.replicate_succ, List.replicate_zero, List.cons_append, List.nil_append, List.append_nil, List.getElem?_cons_zero, List.getElem?_cons_succ, List.set_cons_zero, List.set_cons_succ, q_I, q_I0, q_U, q_T, q_b, q_var, q_var', iZip, q_while, tMake, tMeth, tFld, sFld, sNo, tAug, tChain, sConsx, tMethx, tMakex, tDNewK, sDPut, tDIn, tDNotIn, tDUpd, rMaxD, sThaw, iDict, tDispT1, tDGet, tDGet1, tLst1x])
local macro_rules | `(tactic| walk_at "rd") => `(tactic| first | (walk_at "r1"; try walk_at "r0") | walk_at "r0")
local macro_rules | `(tactic| walk_at "rd?") => `(tactic| (try walk_at "rd"))
theorem sc_has_only:FnScope ["text","letters"] ["text","letters"] (defScope s_has_only):=⟨rfl,rfl,rfl,by decide +kernel,rfl,by decide +kernel,by decide +kernel⟩
theorem ok_has_only (T:Txt K mg a):FnOk P w K mg base CX0 1 a.f_has_only a.d_has_only ["text","letters"] (sp_has_only K a):=by
 refine T.f_has_only.ok sc_has_only (fun vs H Q E h=>?_) (fun cdv A outer s H vs Q E hr h=>?_)
 ·obtain⟨_,_,rfl,_⟩:=h;rfl
 ·have hu64:=hr.units
  have hu1:=Nat.lt_of_le_of_lt (Nat.add_le_add_left (show 1≤64 by decide) _) hu64
  obtain⟨l,m,rfl,hl,q⟩:=h
  refine⟨_,(pss_one (ps_ret (pe_callB (call_allL rfl) rfl T.z_all bt_all (pa_cons (pe_comp (N:=["sign","letters"]) (ix:=[none,some 1]) rfl (cmpOk_ok rfl) rfl (pi_text (pv 0)) (fun _ _ _ _=>(pg_name (i:=0) (show (["sign","letters"]:List Str).Nodup from by decide +kernel) rfl (Or.inl rfl) (Or.inr rfl))) (fun _ _ _ _=>pifs_nil) (fun _ _ _ _=>(pe_cmpR op_in_sign (pv 0) (pv 1) rfl))) pa_nil)))),?_⟩
  walk_at "rd"
  refine⟨l,rfl,CompRun.text (fun _=>true) (fun i=>.bl (decide (l.getD i 0∈m))) hl ?_ ?_ ?_⟩
  ·intro i H1 Q1 hi s1 q1;exact q1 H1 (Same.refl _)
  ·intro i H1 Q1 hi _ s1 q1
   walk_at "rd"
   exact⟨_,m,rfl,rfl,q1 H1 (Same.refl _)⟩
  ·intro p H1 s1 n1 l1
   refine⟨p,(List.range l.length).map (fun i=>decide (l.getD i 0∈m)),rfl,?_,?_⟩
   ·rw[l1,filter_all,List.map_map];rfl
   ·rw[all_range];exact q H1 s1
theorem sc_NoList_init:FnScope ["self","word"] ["self","word"] (defScope s_NoList_init):=⟨rfl,rfl,rfl,by decide +kernel,rfl,by decide +kernel,by decide +kernel⟩
theorem ok_NoList_init (T:Txt K mg a):FnOk P w K mg base CX0 1 a.g_NoList_init a.e_NoList_init ["self","word"] (spInit K a.c_NoList 1 (fs1 "word")):=by
 refine T.fi_NoList.ok sc_NoList_init (fun vs H Q E h=>?_) (fun cdv A outer s H vs Q E hr h=>?_)
 ·obtain⟨e,r,rfl,hl,_⟩:=h;simp[hl]
 ·have hu64:=hr.units
  have hu1:=Nat.lt_of_le_of_lt (Nat.add_le_add_left (show 1≤64 by decide) _) hu64
  obtain⟨e,r,rfl,hl,he,q⟩:=h
  obtain⟨x,rfl⟩:∃x,r=[x]:=by match r,hl with | [x],_=>exact⟨x,rfl⟩
  refine⟨_,(pss_cons (ps_expr (pe_xinit rfl T.m_LackError T.r_LackError (pa_cons (pv 0) (pa_cons (pe_strT (l:=[116,104,105,115,32,105,115,32,110,111,32,108,105,115,116,32,111,102,32,119,111,114,100,115,32,111,118,101,114,32,116,104,101,115,101,32,107,105,110,100,115]) (by decide +kernel)) pa_nil))))
   (pss_one (ps_xfld (pv 0) (pv 1) rfl))),?_⟩
  walk_at "rd"
  refine⟨e,a.c_NoList,none,_,rfl,he,T.x_NoList,(by show 1≤1000;decide),e,a.c_NoList,[],rfl,.bare he,T.x_NoList.c,T.n_NoList_word,(by show 0<1000;decide),fun H1 x1 k1 _=>?_⟩
  exact q H1 x1 fun b o hb hne=>k1 b o hb hne fun d hd=>by rw[he]at hd;exact absurd hd xo_ne
theorem sc_avoids:FnScope ["words","word"] ["words","word"] (defScope s_avoids):=⟨rfl,rfl,rfl,by decide +kernel,rfl,by decide +kernel,by decide +kernel⟩
theorem ok_avoids (T:Txt K mg a):FnOk P w K mg base CX0 1 a.f_avoids a.d_avoids ["words","word"] (sp_avoids K a):=by
 refine T.f_avoids.ok sc_avoids (fun vs H Q E h=>?_) (fun cdv A outer s H vs Q E hr h=>?_)
 ·obtain⟨_,_,_,rfl,_⟩:=h;rfl
 ·have hu64:=hr.units
  have hu1:=Nat.lt_of_le_of_lt (Nat.add_le_add_left (show 1≤64 by decide) _) hu64
  obtain⟨b,ws,w_,rfl,hb,hn,hw,q⟩:=h
  refine⟨_,(pss_one (ps_ret (pe_not (pe_callB (call_anyL rfl) rfl T.z_any bt_any (pa_cons (pe_comp (N:=["piece","word"]) (ix:=[none,some 1]) rfl (cmpOk_ok rfl) rfl (pi_listK (K:=K) rfl (pv 0)) (fun _ _ _ _=>(pg_name (i:=0) (show (["piece","word"]:List Str).Nodup from by decide +kernel) rfl (Or.inl rfl) (Or.inr rfl))) (fun _ _ _ _=>pifs_nil) (fun _ _ _ _=>(pe_cmpR op_in_tx (pv 0) (pv 1) rfl))) pa_nil))))),?_⟩
  walk_at "rd"
  refine⟨b,rfl,⟨_,.mk hb⟩,CompRun.listL (xs:=ws.map tx) (fun _=>true) (fun i=>.bl (infB (ws.getD i []) w_)) (by rw[List.length_map];omega) (.mk hb) (fun i H' Q' _ _ q=>q H' (Same.refl _)) ?_ ?_⟩
  ·intro i H1 Q1 hi _ s1 q1
   rw[List.length_map]at hi
   rw[getD_tx hi]
   walk_at "rd"
   exact⟨_,w_,rfl,rfl,q1 H1 (Same.refl _)⟩
  ·intro p H1 s1 n1 l1
   rw[filter_all,List.length_map]at l1
   refine⟨p,ws.map fun p=>infB p w_,rfl,?_,?_⟩
   ·rw[l1,List.map_map]
    congr 2
    apply List.ext_getElem (by simp)
    intro i h1 h2
    have hi:i<ws.length:=by simpa using h2
    simp[List.getD_eq_getElem?_getD,List.getElem?_eq_getElem hi]
   ·have e:(ws.map fun p=>infB p w_).any id=ws.any fun p=>infB p w_:=by rw[List.any_map];rfl
    rw[e]
    exact q H1 s1
theorem sc_lcell:FnScope ["_law_script","_law_k"] ["_law_script","_law_k"] (defScope s_lcell):=⟨rfl,rfl,rfl,by decide +kernel,rfl,by decide +kernel,by decide +kernel⟩
theorem ok_lcell (T:Txt K mg a):FnOk P w K mg base CX0 1 a.f_lcell a.d_lcell ["_law_script","_law_k"] (sp_lcell K a):=by
 refine T.f_lcell.ok sc_lcell (fun vs H Q E h=>?_) (fun cdv A outer s H vs Q E hr h=>?_)
 ·obtain⟨_,_,_,rfl,_⟩:=h;rfl
 ·have hu64:=hr.units
  have hu1:=Nat.lt_of_le_of_lt (Nat.add_le_add_left (show 1≤64 by decide) _) hu64
  obtain⟨b,ns,k,rfl,hS,hk,q⟩:=h
  refine⟨_,(pss_cons (ps_if (pt_cmpR op_lt (pv 1) (pe_callB (call_lenK (K:=K) rfl) rfl T.z_len bt_len (pa_cons (pv 0) pa_nil)) (nomark _)) (pss_one (ps_ret (pe_ix (ix_listK (K:=K) rfl) (pv 0) (pv 1) (fun _ _=>rfl)))) pss_nil)
   (pss_one (ps_ret pe_int))),?_⟩
  walk_at "rd"
  refine⟨_,_,rfl,.inl ⟨_,hS,rfl⟩,?_⟩
  rw[List.length_map]
  refine ite2 (fun h=>?_) (fun h=>?_)
  ·have h':k<ns.length:=of_decide_eq_true h
   exact⟨b,_,k,_,rfl,rfl,hS,atI_map hk h',q _⟩
  ·exact q _
theorem sc_mixed:FnScope ["_law_cell","_law_k","_law_number"] ["_law_cell","_law_k"] (defScope s_mixed):=⟨rfl,rfl,rfl,by decide +kernel,rfl,by decide +kernel,by decide +kernel⟩
theorem ok_mixed (T:Txt K mg a):FnOk P w K mg base CX0 1 a.f_mixed a.d_mixed ["_law_cell","_law_k"] (sp_mixed K a):=by
 refine T.f_mixed.ok sc_mixed (fun vs H Q E h=>?_) (fun cdv A outer s H vs Q E hr h=>?_)
 ·obtain⟨_,_,rfl,_⟩:=h;rfl
 ·have hu64:=hr.units
  have hu1:=Nat.lt_of_le_of_lt (Nat.add_le_add_left (show 1≤64 by decide) _) hu64
  obtain⟨c,k,rfl,q⟩:=h
  refine⟨_,(pss_cons (ps_set (i:=2) sc_mixed.nd rfl (Or.inl rfl) (pe_op op_mod (pe_op op_add (pe_op op_add (pe_op op_mul (pe_op op_mod (pv 0) pe_int) pe_int) (pe_op op_mul (pv 1) pe_int)) pe_int) pe_int))
   (pss_cons (ps_set (i:=2) sc_mixed.nd rfl (Or.inl rfl) (pe_op op_mod (pe_op op_add (pe_op op_add (pe_op op_mul (pe_op op_mod (pe_op op_mul (pv 2) (pv 2)) pe_int) pe_int) (pe_op op_mul (pv 1) pe_int)) pe_int) pe_int))
   (pss_one (ps_ret (pe_op op_mod (pe_op op_mul (pv 2) (pv 2)) pe_int))))),?_⟩
  walk_at "rd"
  exact⟨by decide,.inr ⟨by decide,by decide⟩,.inr ⟨by decide,by decide⟩,by decide,cm (by decide) (by decide),by decide,.inr ⟨by decide,by decide⟩,.inr ⟨by decide,by decide⟩,by decide,cm (by decide) (by decide),by decide,q _ (Int.emod_nonneg _ (by decide))⟩
theorem sc_many:FnScope ["_law_kinds_here","_law_many","_law_found","_law_line","_law_word","_law_letter"] ["_law_kinds_here","_law_many"] (defScope s_many):=⟨rfl,rfl,rfl,by decide +kernel,rfl,by decide +kernel,by decide +kernel⟩
theorem ok_many (T:Txt K mg a):FnOk P w K mg base CX0 1 a.f_many a.d_many ["_law_kinds_here","_law_many"] (sp_many K a):=by
 refine T.f_many.ok sc_many (fun vs H Q E h=>?_) (fun cdv A outer s H vs Q E hr h=>?_)
 ·obtain⟨_,_,rfl,_⟩:=h;rfl
 ·have hu64:=hr.units
  have hu1:=Nat.lt_of_le_of_lt (Nat.add_le_add_left (show 1≤64 by decide) _) hu64
  obtain⟨m,n,rfl,ok,hn,h1,q⟩:=h
  refine⟨_,(pss_cons (ps_set (i:=2) sc_many.nd rfl (Or.inl rfl) (pe_lst pa_nil))
   (pss_cons (ps_set (i:=3) sc_many.nd rfl (Or.inl rfl) (pe_lst (pa_cons (pe_strT (l:=[]) (by decide +kernel)) pa_nil)))
   (pss_hold (pss_cons (ps_while PassesOwn.never (pt_cmpR op_lt (pe_callB (call_lenK (K:=K) rfl) rfl T.z_len bt_len (pa_cons (pv 2) pa_nil)) (pv 1) (nomark _))
   (pss_cons (ps_set (i:=4) sc_many.nd rfl (Or.inl rfl) (pe_bm PySem.F.plainAttrs_list PySem.F.slot_list_pop PySem.F.type_list_pop mt_popAt (pv 3) (pa_cons pe_int pa_nil)))
   (pss_one (ps_for PassesOwn.never rfl (pi_text (pv 0)) (pg_name (i:=5) sc_many.nd rfl (Or.inl rfl))
   (pss_cons (ps_expr (pe_bm PySem.F.plainAttrs_list PySem.F.slot_list_append PySem.F.type_list_append mt_append (pv 3) (pa_cons (pe_op op_add_tx (pv 4) (pv 5)) pa_nil)))
   (pss_one (ps_expr (pe_bm PySem.F.plainAttrs_list PySem.F.slot_list_append PySem.F.type_list_append mt_append (pv 2) (pa_cons (pe_op op_add_tx (pv 4) (pv 5)) pa_nil)))))))))
   (pss_hold (pss_one (ps_ret (pe_slice (sl_listK (K:=K) rfl) (pv 2) po_none (po_some (pv 1)))))))))),?_⟩
  have m1:=ok.m1
  have m4:=ok.m4
  have sz:∀k:Nat,k≤1000→k≤sizeLine:=fun k h=>Nat.le_trans h (by rw[sizeLine_eq];decide)
  walk_at "rd"
  refine⟨Nat.zero_le _,NewL.of fun pf H1 s1 n1 l1=>⟨sz _ (by decide),NewL.of fun pl H2 s2 n2 l2=>hold_of ?_⟩⟩
  have ne:pf≠pl:=ne_of_none l1 n2
  have nl:H pl=none:=s1.free n2
  have nd:m.Nodup:=isk_nodup ok.k
  walk_at "rd"
  refine WhileRun.by (fun σ H'=>∃(i:Nat) (v4 v5:Option V),σ=[some (tx m),some (.int n),some (.ref pf),some (.ref pl),v4,v5]∧Same H H'∧H' pf=some (.lst ((bf m i).map tx))∧H' pl=some (.lst ((bq m i).map tx))∧m.length*i≤n+3) (fun σ H'=>match H' pf with | some (.lst xs)=>300-xs.length | _=>0) ⟨0,_,_,rfl,s1.trans s2,s2 _ _ l1,l2,by omega⟩ ?_
  rintro σ H3 ⟨i,v4,v5,rfl,s3,f3,h3,hb⟩
  have lf:=bf_len m i
  refine⟨decide ((bf m i).length<n),fun Q' hq=>?_,fun H4 s4=>?_⟩
  ·walk_at "rd"
   refine⟨_,_,rfl,.inl ⟨_,.mk f3,rfl⟩,?_⟩
   rw[List.length_map]
   have e:decide (((bf m i).length:Int)<(n:Int))=decide ((bf m i).length<n):=by rw[decide_eq_decide];omega
   rw[e]
   exact hq H3 (Same.refl _)
  ·have f4:=s4 _ _ f3
   have h4:=s4 _ _ h3
   have s04:=s3.trans s4
   refine ite2 (fun hlt=>?_) (fun hge=>?_)
   ·have hlt:=of_decide_eq_true hlt
    walk_at "rd"
    rw[bq_cons m1]at h4
    obtain⟨w0,hw0⟩:∃w0,w0=([]::bf m i).getD i []:=⟨_,rfl⟩
    have ew:∀c,([]::bf m i).getD i []++[c]=w0++[c]:=fun c=>by rw[hw0]
    obtain⟨dr,hdr⟩:∃dr,dr=([]::bf m i).drop (i+1):=⟨_,rfl⟩
    have ldr:dr.length≤1000:=by rw[hdr,List.length_drop,List.length_cons];omega
    have lw0:w0.length≤300:=by
     have hi:=bf_in m1 i
     have e:([]::bf m i)[i]?=some w0:=by rw[hw0,List.getD_eq_getElem?_getD,List.getElem?_eq_getElem hi];rfl
     have hii:i≤201:=by have:=Nat.mul_le_mul_right i m1;omega
     rcases bf_size m1 i i w0 e with⟨_,b⟩|⟨_,b⟩
     ·omega
     ·have:=Nat.lt_two_pow_self (n:=w0.length);omega
    rw[←hw0,←hdr,List.map_cons]at h4
    refine⟨.inl ⟨rfl,_,.mk h4⟩,pl,_,0,0,tx w0,rfl,rfl,h4,by decide,by decide,(by simp[seqIndex?]),rfl,?_⟩
    have s5:Same H (upd H4 pl (.lst ((tx w0::dr.map tx).eraseIdx 0))):=same_upd3' nl s04
    have l5:upd H4 pl (.lst ((tx w0::dr.map tx).eraseIdx 0)) pl=some (.lst (dr.map tx)):=upd_same
    have f5:upd H4 pl (.lst ((tx w0::dr.map tx).eraseIdx 0)) pf=some (.lst ((bf m i).map tx)):=by rw[upd_ne ne];exact f4
    generalize upd H4 pl (.lst ((tx w0::dr.map tx).eraseIdx 0))=H5 at s5 l5 f5
    refine⟨m,rfl,ForRun.text (fun t σ H'=>∃v5,σ=[some (tx m),some (.int n),some (.ref pf),some (.ref pl),some (tx w0),v5]∧Same H H'∧H' pf=some (.lst ((bf m i++(m.take t).map fun c=>w0++[c]).map tx))∧H' pl=some (.lst ((dr++(m.take t).map fun c=>w0++[c]).map tx))) ⟨_,rfl,s5,by rw[List.take_zero,List.map_nil,List.append_nil];exact f5,by rw[List.take_zero,List.map_nil,List.append_nil];exact l5⟩ ?_ ?_⟩
    ·rintro t c σ H6 hc ⟨v5',rfl,s6,f6,l6⟩
     have ht:=(List.getElem?_eq_some_iff.mp hc).1
     have hm4:(m.take t).length≤4:=by rw[List.length_take];omega
     walk_at "rd"
     refine⟨.inl ⟨rfl,_,.mk l6⟩,sz _ (by omega),pl,_,_,rfl,rfl,l6,?_,?_⟩
     ·rw[List.length_map,List.length_append,List.length_map,sizeLine_eq];omega
     have f7:upd H6 pl (.lst ((dr++(m.take t).map fun c=>w0++[c]).map tx++[tx (w0++[c])])) pf=some (.lst ((bf m i++(m.take t).map fun c=>w0++[c]).map tx)):=by rw[upd_ne ne];exact f6
     refine⟨.inl ⟨rfl,_,.mk f7⟩,sz _ (by omega),pf,_,_,rfl,rfl,f7,?_,_,rfl,?_,?_,?_⟩
     ·rw[List.length_map,List.length_append,List.length_map,sizeLine_eq];omega
     ·exact same_upd3' n1 (same_upd3' nl s6)
     ·rw[upd_same,take_next hc,List.map_append,List.map_append,List.map_append,List.map_append,List.append_assoc];rfl
     ·rw[upd_ne (Ne.symm ne),upd_same,take_next hc,List.map_append,List.map_append,List.map_append,List.map_append,List.append_assoc];rfl
    ·rintro σ H6 ⟨v5',rfl,s6,f6,l6⟩
     rw[List.take_length]at f6 l6
     refine⟨⟨i+1,_,_,rfl,s6,?_,?_,?_⟩,?_⟩
     ·rw[f6,bf];simp only[ew]
     ·rw[l6,bq_next m1,←hdr];simp only[ew]
     ·rw[Nat.mul_succ];omega
     ·rw[f6,f3]
      simp only[List.length_map,List.length_append]
      omega
   ·have hge:n≤(bf m i).length:=Nat.le_of_not_lt (fun z=>hge (decide_eq_true z))
    walk_at "rd?"
    refine hold_of ?_
    walk_at "rd"
    refine⟨_,rfl,pf,_,rfl,.mk f4,fun pr nr=>?_⟩
    rw[cutV_to,←List.map_take]
    exact q pr _ _ (s04.trans (same_upd nr)) (s04.free nr) upd_same (bf_good ok h1 hn) (by rw[List.length_take];omega)
theorem sc_thing:FnScope ["_law_x","_law_kinds_here","_law_other","_law_some"] ["_law_x","_law_kinds_here"] (defScope s_thing):=⟨rfl,rfl,rfl,by decide +kernel,rfl,by decide +kernel,by decide +kernel⟩
theorem ok_thing (T:Txt K mg a):FnOk P w K mg base CX0 1 a.f_thing a.d_thing ["_law_x","_law_kinds_here"] (sp_thing K a):=by
 refine T.f_thing.ok sc_thing (fun vs H Q E h=>?_) (fun cdv A outer s H vs Q E hr h=>?_)
 ·obtain⟨_,_,rfl,_⟩:=h;rfl
 ·have hu64:=hr.units
  have hu1:=Nat.lt_of_le_of_lt (Nat.add_le_add_left (show 1≤64 by decide) _) hu64
  obtain⟨n,m,rfl,ok,q⟩:=h
  obtain⟨es0_,ees0_⟩:∃es_,es_=dispG ((defBody s_thing).getD 1 (.Pass ⟨0,0,0,0⟩)):=⟨_,rfl⟩
  have eb_:defBody s_thing=[(defBody s_thing).getD 0 (.Pass ⟨0,0,0,0⟩),dispP es0_ ((defBody s_thing).getD 1 (.Pass ⟨0,0,0,0⟩)),(defBody s_thing).getD 2 (.Pass ⟨0,0,0,0⟩)]:=by
   rw[ees0_]
   kernel_rfl
  rw[eb_]
  refine' ⟨_,(pss_cons (ps_set (i:=2) sc_thing.nd rfl (Or.inl rfl) (pe_ix (ix_listK (K:=K) rfl) (pe_comp (N:=["_law_letter","_law_kinds_here"]) (ix:=[none,some 1]) rfl (cmpOk_ok rfl) rfl (pi_text (pe_strT (l:=L9) (by decide +kernel))) (fun _ _ _ _=>(pg_name (i:=0) (show (["_law_letter","_law_kinds_here"]:List Str).Nodup from by decide +kernel) rfl (Or.inl rfl) (Or.inr rfl))) (fun _ _ _ _=>(pifs_one (pt_cmpR op_notin_sign (pv 0) (pv 1) rfl))) (fun _ _ _ _=>(pv 0))) pe_int (fun _ _=>rfl)))
   (pss_hold (pss_cons (ps_set (i:=3) sc_thing.nd rfl (Or.inl rfl) (pe_lstz ?disp0))
   (pss_hold (pss_one (ps_ret (pe_ix (ix_listK (K:=K) rfl) (pv 3) (pe_op op_mod (pv 0) pe_int) (fun _ _=>rfl)))))))),?_⟩
  case disp0=>
   rw[ees0_]
   exact(paz_cons pe_non (paz_cons (pe_strT (l:=[]) (by decide +kernel)) (paz_cons pe_int (paz_cons pe_bl (paz_cons (pe_lst (pa_cons (pe_ix ix_tx (pv 1) pe_int (fun _ _=>rfl)) pa_nil)) (paz_cons (pe_tup pa_nil) (paz_cons pe_dnewK (paz_cons (pe_bm0 PySem.F.plainAttrs_str PySem.F.slot_str_upper PySem.F.type_str_upper mt_upperS (pe_ix ix_tx (pv 1) pe_int (fun _ _=>rfl))) (paz_cons (pv 2) (paz_cons (pe_op op_add_tx (pe_ix ix_tx (pv 1) pe_int (fun _ _=>rfl)) (pv 2)) (paz_cons (pe_op op_mul_tx (pe_ix ix_tx (pv 1) pe_int (fun _ _=>rfl)) pe_int) (paz_cons (pe_strT (l:=[32]) (by decide +kernel)) paz_nil))))))))))))
  have m1:=ok.m1
  have m4:=ok.m4
  have sz:∀k:Nat,k≤1000→k≤sizeLine:=fun k h=>Nat.le_trans h (by rw[sizeLine_eq];decide)
  obtain⟨c0,hc,mc⟩:=first_ex m1
  have lc:=ok.lets c0 mc
  obtain⟨od,rest,hod,nod,aod⟩:=odd_ex (m:=m) (A:=L9) (by decide) (by show m.length<9;omega)
  walk_at "r1"
  refine⟨_,rfl,CompRun.text (l:=L9) (fun i=>!decide (L9.getD i 0∈m)) (fun i=>tx [L9.getD i 0]) (by decide) ?_ ?_ ?_⟩
  ·intro i H1 Q1 hi s1 q1
   walk_at "rd"
   exact⟨_,m,rfl,rfl,q1 H1 (Same.refl _)⟩
  ·intro i H1 Q1 hi _ s1 q1
   walk_at "rd"
   exact q1 H1 (Same.refl _)
  ·intro p0 H0 s0 n0 l0
   rw[hod]at l0
   have szm:m.length≤sizeLine:=sz _ (by omega)
   refine⟨p0,_,_,_,rfl,rfl,.mk l0,atI0,?_⟩
   walk_at "rd?"
   refine hold_of ?_
   walk_at "rd"
   have hr:repT [c0] 42=List.replicate 42 c0:=rep1 c0 42
   have lr:(repT [c0] 42).length=42:=by rw[hr,List.length_replicate]
   refine⟨m,0,c0,rfl,rfl,szm,hc,sz _ (by decide),NewL.of fun p1 H1 s1 n1 l1=>⟨Nat.zero_le _,NewT.of fun p2 H2 s2 n2 l2=>fun p3 n3=>?_⟩⟩
   have s3:Same H2 (upd H2 p3 (.dK [])):=same_upd n3
   have h3:upd H2 p3 (.dK []) p3=some (.dK []):=upd_same
   generalize upd H2 p3 (.dK [])=H3 at s3 h3
   refine⟨m,0,c0,rfl,rfl,szm,hc,rfl,[c0],rfl,trivial,by simp,fun c h=>by rw[List.mem_singleton.mp h];exact lc,m,0,c0,rfl,rfl,szm,hc,sz _ (by decide),m,0,c0,rfl,rfl,szm,hc,[c0],42,rfl,rfl,by decide,by decide,by simp,sz _ (by decide),NewL.of fun p4 H4 s4 n4 l4=>?_⟩
   refine hold_of ?_
   walk_at "rd"
   refine⟨by decide,?_⟩
   obtain⟨v,hv,hm⟩:=atI_ok (xs:=[V.non,tx [],V.int 7,V.bl true,V.ref p1,V.ref p2,V.ref p3,tx ([c0].map fun x=>x-32),tx [od],tx [c0,od],tx (repT [c0] 42),tx [32]]) (i:=n % 12) (by omega) (by show _<(12:Int);omega)
   refine⟨p4,_,_,v,rfl,rfl,.mk l4,hv,q v H4 (s0.trans (s1.trans (s2.trans (s3.trans s4)))) ?_⟩
   have tk:∀l:List Nat,l.length≤1000→isw l m 41=false→BadW K H4 (tx l) m 41∨tx l=tx []:=fun l a b=>.inl (.inl ⟨l,rfl,a,b⟩)
   simp only[List.mem_cons,List.not_mem_nil,or_false]at hm
   rcases hm with rfl | rfl | rfl | rfl | rfl | rfl | rfl | rfl | rfl | rfl | rfl | rfl
   ·exact .inl (.inr oth_non)
   ·exact .inr rfl
   ·exact .inl (.inr oth_int)
   ·exact .inl (.inr oth_bl)
   ·exact .inl (.inr (oth_lst ((s2.trans (s3.trans s4)) _ _ l1) rfl))
   ·exact .inl (.inr (oth_tup ((s3.trans s4) _ _ l2) rfl))
   ·exact .inl (.inr (oth_dK (s4 _ _ h3)))
   ·exact tk _ (by simp) (isw_out (c:=c0-32) (by simp) (ok.out (by omega)))
   ·exact tk _ (by simp) (isw_out (c:=od) (by simp) nod)
   ·exact tk _ (by simp) (isw_out (c:=od) (by simp) nod)
   ·exact tk _ (by rw[lr];decide) (isw_long (by rw[lr];decide))
   ·exact tk _ (by simp) (isw_out (c:=32) (by simp) (ok.out (by omega)))
theorem sc_alike:FnScope ["_law_found","_law_thing_here"] ["_law_found","_law_thing_here"] (defScope s_alike):=⟨rfl,rfl,rfl,by decide +kernel,rfl,by decide +kernel,by decide +kernel⟩
theorem ok_alike (T:Txt K mg a):FnOk P w K mg base CX0 1 a.f_alike a.d_alike ["_law_found","_law_thing_here"] (sp_alike K a):=by
 refine T.f_alike.ok sc_alike (fun vs H Q E h=>?_) (fun cdv A outer s H vs Q E hr h=>?_)
 ·obtain⟨_,_,rfl,_⟩:=h;rfl
 ·have hu64:=hr.units
  have hu1:=Nat.lt_of_le_of_lt (Nat.add_le_add_left (show 1≤64 by decide) _) hu64
  obtain⟨t,v,rfl,ht,tm,q⟩:=h
  refine⟨_,(pss_one (ps_ret (pe_and (pe_cmpR (op_eqDK (K:=K) rfl hu64) (pe_ix (ix_tupK (K:=K) rfl) (pv 0) pe_int (fun _ _=>rfl)) (pe_strT (l:=[108,105,115,116]) (by decide +kernel)) (nomark _)) (pe_and (pe_cmpR (op_eqDK (K:=K) rfl hu64) (pe_callB (call_isinstR (K:=K) rfl) rfl T.z_isinstance bt_isinstance (pa_cons (pe_ix (ix_tupK (K:=K) rfl) (pv 0) pe_int (fun _ _=>rfl)) (pa_cons (pe_bltn (v:=.ty "bool") rfl T.z_bool bt_bool rfl) pa_nil))) (pe_callB (call_isinstR (K:=K) rfl) rfl T.z_isinstance bt_isinstance (pa_cons (pv 1) (pa_cons (pe_bltn (v:=.ty "bool") rfl T.z_bool bt_bool rfl) pa_nil))) (nomark _)) (pe_one (pe_cmpR (op_eqS (K:=K) rfl hu64) (pe_ix (ix_tupK (K:=K) rfl) (pv 0) pe_int (fun _ _=>rfl)) (pv 1) (nomark _))))))),?_⟩
  obtain⟨T0,b,ty,kb,se⟩:=tm
  walk_at "rd"
  refine⟨t,_,_,tx _,rfl,rfl,.mk ht,rfl,eq_tx ⟨true,rfl,iteT ⟨t,_,_,v,rfl,rfl,.mk ht,rfl,_,_,_,_,b,rfl,rfl,.ty ty,kb,_,_,_,_,b,rfl,rfl,.ty ty,kb,eq_bl ⟨true,rfl,iteT ⟨t,_,_,v,rfl,rfl,.mk ht,rfl,?_⟩⟩⟩⟩⟩
  rcases se with⟨d,o⟩|⟨b2,kvs,rfl,hb⟩
  ·exact .inl (eq_self o q)
  ·exact .inr ⟨b2,kvs,rfl,rfl,hb,q⟩
theorem sc_is_kinds:FnScope ["thing"] ["thing"] (defScope s_is_kinds):=⟨rfl,rfl,rfl,by decide +kernel,rfl,by decide +kernel,by decide +kernel⟩
theorem ok_is_kinds (T:Txt K mg a):FnOk P w K mg base CX0 2 a.f_is_kinds a.d_is_kinds ["thing"] (sp_is_kinds K a):=by
 refine T.f_is_kinds.ok sc_is_kinds (fun vs H Q E h=>?_) (fun cdv A outer s H vs Q E hr h=>?_)
 ·obtain⟨_,rfl,_⟩:=h;rfl
 ·have hu64:=hr.units
  have hu1:=Nat.lt_of_le_of_lt (Nat.add_le_add_left (show 1≤64 by decide) _) hu64
  obtain⟨v,rfl,q⟩:=h
  refine⟨_,(pss_cons (ps_if (pt_not (pt_val (pe_callB (call_isinstR (K:=K) rfl) rfl T.z_isinstance bt_isinstance (pa_cons (pv 0) (pa_cons (pe_bltn (v:=.ty "str") rfl T.z_str bt_str rfl) pa_nil))))) (pss_one (ps_ret pe_bl)) pss_nil)
   (pss_cons (ps_if (PW.pt (pw_or (pt_cmpR op_lt (pe_callB (call_lenK (K:=K) rfl) rfl T.z_len bt_len (pa_cons (pv 0) pa_nil)) pe_int (nomark _)) (pw_or1 (pt_cmpR op_gt (pe_callB (call_lenK (K:=K) rfl) rfl T.z_len bt_len (pa_cons (pv 0) pa_nil)) (pe_globI rfl T.c_MOST_KINDS) (nomark _))))) (pss_one (ps_ret pe_bl)) pss_nil)
   (pss_one (ps_ret (pe_and (pe_call (ok_has_only T) (hr.mono (by decide)) rfl T.m_has_only T.f_has_only.kp T.b_has_only .nil pass0 (pa_cons (pv 0) (pa_cons (pe_globS rfl T.c_SMALL_LETTERS) pa_nil))) (pe_one (pe_cmpR (op_eqDK (K:=K) rfl hu64) (pe_callTy (call_list_tx rfl) rfl T.z_list bt_list (pa_cons (pv 0) pa_nil)) (pe_callB (call_sorted_set rfl) rfl T.z_sorted bt_sorted (pa_cons (pe_callTy (call_set_tx rfl) rfl T.z_set bt_set (pa_cons (pv 0) pa_nil)) pa_nil)) (nomark _)))))))),?_⟩
  walk_at "rd"
  rcases q with⟨l,rfl,hl,q⟩|⟨⟨T0,_,ty,kt,_⟩,q⟩
  ·refine⟨_,_,_,_,true,rfl,rfl,.ty (.pl (.str _)),kit_ss,iteF ?_⟩
   refine⟨_,_,rfl,lenTx hl,?_⟩
   refine ite2 (fun h=>iteT' ?_) (fun h=>?_)
   ·have h1:¬1≤l.length:=by have:=of_decide_eq_true h;omega
    have e:=q H (Same.refl _)
    unfold isk at e
    rw[decide_eq_false h1,Bool.false_and,Bool.false_and,Bool.false_and]at e
    exact e
   ·have h1:1≤l.length:=by have:¬((l.length:Nat):Int)<1:=fun z=>h (decide_eq_true z);omega
    refine⟨_,_,rfl,lenTx hl,?_⟩
    refine ite2 (fun h'=>?_) (fun h'=>?_)
    ·have h4:¬l.length≤4:=by have:=of_decide_eq_true h';omega
     have e:=q H (Same.refl _)
     unfold isk at e
     rw[decide_eq_false h4,Bool.and_false,Bool.false_and,Bool.false_and]at e
     exact e
    ·have h4:l.length≤4:=by have:¬4<((l.length:Nat):Int):=fun z=>h' (decide_eq_true z);omega
     refine⟨l,LET,by rw[let_str],hl,fun H2 s2=>⟨_,rfl,?_⟩⟩
     refine ite2 (fun ha=>?_) (fun ha=>?_)
     ·refine⟨l,rfl,hl,NewL.of fun p1 H3 s3 n3 l3=>?_⟩
      refine⟨signs l,by rw[signs_length];exact hl,.inl ⟨l,rfl,rfl⟩,fun p4 n4=>?_⟩
      refine⟨p4,ddl (signs l),rfl,upd_same,Nat.lt_of_le_of_lt (ddl_len l) (by omega),NewL.of fun p5 H5 s5 n5 l5=>?_⟩
      refine eqL_tx (.mk ((same_upd n4).trans s5 _ _ l3)) (.mk l5) ?_
      have e:=q H5 (s2.trans (s3.trans ((same_upd n4).trans s5)))
      unfold isk at e
      rw[decide_eq_true h1,decide_eq_true h4,ha,Bool.true_and,Bool.true_and,Bool.true_and]at e
      exact e
     ·have e:=q H2 s2
      unfold isk at e
      rw[Bool.eq_false_iff.mpr ha,Bool.and_false,Bool.false_and]at e
      exact e
  ·exact⟨_,_,_,_,false,rfl,rfl,.ty ty,kt,iteT q⟩
theorem sc_is_word:FnScope ["thing","kinds","most"] ["thing","kinds","most"] (defScope s_is_word):=⟨rfl,rfl,rfl,by decide +kernel,rfl,by decide +kernel,by decide +kernel⟩
theorem ok_is_word (T:Txt K mg a):FnOk P w K mg base CX0 2 a.f_is_word a.d_is_word ["thing","kinds","most"] (sp_is_word K a):=by
 refine T.f_is_word.ok sc_is_word (fun vs H Q E h=>?_) (fun cdv A outer s H vs Q E hr h=>?_)
 ·obtain⟨_,_,_,rfl,_⟩:=h;rfl
 ·have hu64:=hr.units
  have hu1:=Nat.lt_of_le_of_lt (Nat.add_le_add_left (show 1≤64 by decide) _) hu64
  obtain⟨v,m,most,rfl,q⟩:=h
  refine⟨_,(pss_one (ps_ret (pe_and (pe_callB (call_isinstR (K:=K) rfl) rfl T.z_isinstance bt_isinstance (pa_cons (pv 0) (pa_cons (pe_bltn (v:=.ty "str") rfl T.z_str bt_str rfl) pa_nil))) (pe_and (pe_cmpR op_le (pe_callB (call_lenK (K:=K) rfl) rfl T.z_len bt_len (pa_cons (pv 0) pa_nil)) (pv 2) (nomark _)) (pe_one (pe_call (ok_has_only T) (hr.mono (by decide)) rfl T.m_has_only T.f_has_only.kp T.b_has_only .nil pass0 (pa_cons (pv 0) (pa_cons (pv 1) pa_nil)))))))),?_⟩
  walk_at "rd"
  rcases q with⟨l,rfl,hl,q⟩|⟨⟨T0,_,ty,kt,_⟩,q⟩
  ·refine⟨_,_,_,_,true,rfl,rfl,.ty (.pl (.str _)),kit_ss,iteT ?_⟩
   refine⟨_,_,rfl,lenTx hl,?_⟩
   refine ite2 (fun h=>?_) (fun h=>?_)
   ·refine⟨l,m,rfl,hl,fun H2 s2=>?_⟩
    have e:=q H2 s2
    unfold isw at e
    rw[h,Bool.true_and]at e
    exact e
   ·have e:=q H (Same.refl _)
    unfold isw at e
    rw[Bool.eq_false_iff.mpr h,Bool.false_and]at e
    exact e
  ·exact⟨_,_,_,_,false,rfl,rfl,.ty ty,kt,iteF q⟩
theorem sc_lkinds:FnScope ["_law_cell","_law_at","_law_found","_law_k"] ["_law_cell"] (defScope s_lkinds):=⟨rfl,rfl,rfl,by decide +kernel,rfl,by decide +kernel,by decide +kernel⟩
theorem ok_lkinds (T:Txt K mg a):FnOk P w K mg base CX0 2 a.f_lkinds a.d_lkinds ["_law_cell"] (sp_lkinds K a):=by
 refine T.f_lkinds.ok sc_lkinds (fun vs H Q E h=>?_) (fun cdv A outer s H vs Q E hr h=>?_)
 ·obtain⟨_,rfl,_⟩:=h;rfl
 ·have hu64:=hr.units
  have hu1:=Nat.lt_of_le_of_lt (Nat.add_le_add_left (show 1≤64 by decide) _) hu64
  obtain⟨c,rfl,q⟩:=h
  refine⟨_,(pss_cons (ps_set (i:=1) sc_lkinds.nd rfl (Or.inl rfl) (pe_op op_mod (pe_call (ok_mixed T) (hr.mono (by decide)) rfl T.m_mixed T.f_mixed.kp T.b_mixed .nil pass0 (pa_cons (pv 0) (pa_cons pe_int pa_nil))) pe_int))
   (pss_cons (ps_set (i:=2) sc_lkinds.nd rfl (Or.inl rfl) (pe_ix ix_tx (pe_strT (l:=[97,98,99,100,101,102,103,104]) (by decide +kernel)) (pv 1) (fun _ _=>rfl)))
   (pss_cons (ps_for PassesOwn.never rfl (pi_range1 rfl T.z_range (pa_cons (pe_op op_mod (pe_call (ok_mixed T) (hr.mono (by decide)) rfl T.m_mixed T.f_mixed.kp T.b_mixed .nil pass0 (pa_cons (pv 0) (pa_cons pe_int pa_nil))) pe_int) pa_nil)) (pg_name (i:=3) sc_lkinds.nd rfl (Or.inl rfl))
   (pss_cons (ps_set (i:=1) sc_lkinds.nd rfl (Or.inl rfl) (pe_op op_add (pe_op op_add (pv 1) pe_int) (pe_op op_mod (pe_call (ok_mixed T) (hr.mono (by decide)) rfl T.m_mixed T.f_mixed.kp T.b_mixed .nil pass0 (pa_cons (pv 0) (pa_cons (pe_op op_add pe_int (pv 3)) pa_nil))) pe_int)))
   (pss_one (ps_set (i:=2) sc_lkinds.nd rfl (Or.inl rfl) (pe_op op_add_tx (pv 2) (pe_ix ix_tx (pe_strT (l:=[97,98,99,100,101,102,103,104,105,106,107,108,109,110,111,112,113,114,115,116,117,118,119,120,121,122]) (by decide +kernel)) (pv 1) (fun _ _=>rfl)))))))
   (pss_one (ps_ret (pv 2)))))),?_⟩
  have sz:∀k:Nat,k≤1000→k≤sizeLine:=fun k h=>Nat.le_trans h (by rw[sizeLine_eq];decide)
  walk_at "rd"
  refine⟨_,_,rfl,fun r0 h0=>?_⟩
  walk_at "rd?"
  have g1:=Int.emod_nonneg r0 (show (8:Int)≠0 by decide)
  have g2:=Int.emod_lt_of_pos r0 (show (0:Int)<8 by decide)
  generalize r0 % 8=a0 at g1 g2
  refine⟨by decide,[97,98,99,100,101,102,103,104],_,_,rfl,rfl,sz _ (by decide),atI_getD (by omega) (by show _<(8:Int);omega),_,_,rfl,fun r1 h1=>?_⟩
  rw[let8_at _ (by omega)]
  walk_at "rd?"
  refine⟨by decide,_,rfl,by omega,by omega,ForRun.range (fun i σ H'=>H'=H∧∃(at_:Int) (f:List Nat) (v3:Option V),σ=[some (.int c),some (.int at_),some (tx f),v3]∧0≤at_∧at_≤7+6*i∧f.length=i+1∧f.Pairwise (· < ·)∧∀x∈f,97≤x∧x≤97+at_.toNat) ⟨rfl,_,_,_,rfl,by omega,by omega,rfl,by simp,by simp⟩ ?_ ?_⟩
  ·rintro i σ H1 hi ⟨rfl,at_,f,v3,rfl,b0,b1,fl,fp,fm⟩
   walk_at "rd"
   refine⟨_,_,rfl,fun r2 h2=>?_⟩
   walk_at "rd?"
   have g3:=Int.emod_nonneg r2 (show (6:Int)≠0 by decide)
   have g4:=Int.emod_lt_of_pos r2 (show (0:Int)<6 by decide)
   generalize r2 % 6=a2 at g3 g4
   refine⟨by decide,LET,_,_,rfl,rfl,sz _ (by decide),atI_getD (by omega) (by show _<(26:Int);omega),sz _ (by omega),by trivial,_,_,_,rfl,by omega,by omega,by simp[fl],?_,?_⟩
   ·rw[let_at4 _ (by omega),List.pairwise_append]
    refine⟨fp,by simp,fun x hx y hy=>?_⟩
    rw[List.mem_singleton.mp hy]
    have:=fm x hx
    omega
   ·intro x hx
    rw[let_at4 _ (by omega)]at hx
    rcases List.mem_append.mp hx with z | z
    ·have:=fm x z;omega
    ·rw[List.mem_singleton.mp z];omega
  ·rintro σ H1 ⟨rfl,at_,f,v3,rfl,b0,b1,fl,fp,fm⟩
   walk_at "rd"
   exact q f (isk_of (by omega) (by omega) (fun x hx=>let_mem4 (fm x hx).1 (by have:=(fm x hx).2;omega)) fp) (by omega) (by omega)
theorem sc_drawn:FnScope ["_law_cell","_law_by_digits","_law_kinds_here","_law_many","_law_text","_law_left","_law_k","_law_number"] ["_law_cell","_law_by_digits","_law_kinds_here","_law_many"] (defScope s_drawn):=⟨rfl,rfl,rfl,by decide +kernel,rfl,by decide +kernel,by decide +kernel⟩
theorem ok_drawn (T:Txt K mg a):FnOk P w K mg base CX0 2 a.f_drawn a.d_drawn ["_law_cell","_law_by_digits","_law_kinds_here","_law_many"] (sp_drawn K a):=by
 refine T.f_drawn.ok sc_drawn (fun vs H Q E h=>?_) (fun cdv A outer s H vs Q E hr h=>?_)
 ·obtain⟨_,_,_,_,rfl,_⟩:=h;rfl
 ·have hu64:=hr.units
  have hu1:=Nat.lt_of_le_of_lt (Nat.add_le_add_left (show 1≤64 by decide) _) hu64
  obtain⟨c,d,m,n,rfl,hm,h4,h0,h1,q⟩:=h
  refine⟨_,(pss_cons (ps_set (i:=4) sc_drawn.nd rfl (Or.inl rfl) (pe_strT (l:=[]) (by decide +kernel)))
   (pss_cons (ps_set (i:=5) sc_drawn.nd rfl (Or.inl rfl) (pv 0))
   (pss_cons (ps_for PassesOwn.never rfl (pi_range1 rfl T.z_range (pa_cons (pv 3) pa_nil)) (pg_name (i:=6) sc_drawn.nd rfl (Or.inl rfl))
   (pss_cons (ps_set (i:=7) sc_drawn.nd rfl (Or.inl rfl) (pv 5))
   (pss_cons (ps_if (PW.pt (pw_or (pt_not (pt_val (pv 1))) (pw_or (pt_cmpR (op_eqDK (K:=K) rfl hu64) (pv 5) pe_int (nomark _)) (pw_or1 (pt_cmpR (op_eqDK (K:=K) rfl hu64) (pv 5) (pe_un un_neg pe_int) (nomark _)))))) (pss_one (ps_set (i:=7) sc_drawn.nd rfl (Or.inl rfl) (pe_call (ok_mixed T) (hr.mono (by decide)) rfl T.m_mixed T.f_mixed.kp T.b_mixed .nil pass0 (pa_cons (pv 0) (pa_cons (pe_op op_add pe_int (pv 6)) pa_nil))))) pss_nil)
   (pss_hold (pss_cons (ps_set (i:=4) sc_drawn.nd rfl (Or.inl rfl) (pe_op op_add_tx (pv 4) (pe_ix ix_tx (pv 2) (pe_op op_mod (pv 7) (pe_callB (call_lenK (K:=K) rfl) rfl T.z_len bt_len (pa_cons (pv 2) pa_nil))) (fun _ _=>rfl))))
   (pss_one (ps_set (i:=5) sc_drawn.nd rfl (Or.inl rfl) (pe_op op_fdiv (pv 5) (pe_callB (call_lenK (K:=K) rfl) rfl T.z_len bt_len (pa_cons (pv 2) pa_nil))))))))))
   (pss_one (ps_ret (pv 4)))))),?_⟩
  walk_at "rd"
  refine⟨n,rfl,by omega,by omega,ForRun.range (fun i σ H'=>H'=H∧∃(f:List Nat) (le:Int) (v6 v7:Option V),σ=[some (.int c),some (.bl d),some (tx m),some (.int n),some (tx f),some (.int le),v6,v7]∧f.length=i∧∀x∈f,x∈m) ⟨rfl,[],c,none,none,rfl,rfl,by simp⟩ ?_ ?_⟩
  ·rintro i σ H1 hi ⟨rfl,f,le,v6,v7,rfl,hf,fm⟩
   have hM:m.length≤1000:=by omega
   have sz:m.length≤sizeLine:=Nat.le_trans hM (by rw[sizeLine_eq];decide)
   have sf:f.length+1≤sizeLine:=by rw[sizeLine_eq];omega
   have pm:(0:Int)<m.length:=by omega
   have cd:CDiv le m.length:=⟨pm,by omega⟩
   walk_at "rd"
   apply with_tailI (C:=fun _=>True)
   ·intro tail
    refine ite2 (fun h=>iteT' ⟨_,_,rfl,fun r hr=>tail r trivial⟩) (fun h=>.inl ⟨rfl,_,rfl,ite2 (fun h=>iteT' ⟨_,_,rfl,fun r hr=>tail r trivial⟩) (fun h=>.inl ⟨rfl,_,rfl,ite2 (fun h=>⟨_,_,rfl,fun r hr=>tail r trivial⟩) (fun h=>tail le trivial)⟩)⟩)
   ·intro nu _
    refine hold_of ?_
    walk_at "rd"
    obtain⟨cc,hcc,mc⟩:=atI_ok (xs:=m) (i:=nu % m.length) (Int.emod_nonneg _ (by omega)) (Int.emod_lt_of_pos _ pm)
    exact⟨_,_,rfl,lenTx hM,pm,m,_,cc,rfl,rfl,sz,hcc,sf,_,_,rfl,lenTx hM,cd,by trivial,_,_,_,_,rfl,by simp[hf],fun x hx=>(List.mem_append.mp hx).elim (fun z=>fm x z) fun z=>by rw[List.mem_singleton.mp z];exact mc⟩
  ·rintro σ H1 ⟨rfl,f,le,v6,v7,rfl,hf,fm⟩
   walk_at "rd"
   exact q f (by omega) fm
theorem sc_need_kinds:FnScope ["thing"] ["thing"] (defScope s_need_kinds):=⟨rfl,rfl,rfl,by decide +kernel,rfl,by decide +kernel,by decide +kernel⟩
theorem ok_need_kinds (T:Txt K mg a):FnOk P w K mg base (CXr P w) 3 a.f_need_kinds a.d_need_kinds ["thing"] (sp_need_kinds K a):=by
 refine T.f_need_kinds.okX sc_need_kinds (fun vs H Q E h=>?_) (fun cdv A outer s H vs Q E hr h=>?_)
 ·obtain⟨_,rfl,_⟩:=h;rfl
 ·have hu64:=hr.units
  have hu1:=Nat.lt_of_le_of_lt (Nat.add_le_add_left (show 1≤64 by decide) _) hu64
  obtain⟨v,rfl,q⟩:=h
  refine⟨_,(pss_one (ps_if (pt_not (pt_val (pe_call (ok_is_kinds T) (hr.mono (by decide)) rfl T.m_is_kinds T.f_is_kinds.kp T.b_is_kinds .nil pass0 (pa_cons (pv 0) pa_nil)))) (pss_one (ps_raise cx_raises rfl (pe_xmake0 T.x_NoKinds T.i_NoKinds rfl T.m_NoKinds (pa_cons (pe_strT (l:=[107,105,110,100,115,32,97,114,101,32,111,110,101,32,116,111,32,102,111,117,114,32,117,110,108,105,107,101,32,115,109,97,108,108,32,108,101,116,116,101,114,115,44,32,114,105,115,105,110,103]) (by decide +kernel)) pa_nil)))) pss_nil)),?_⟩
  walk_at "rd"
  have up:∀H1,Same H H1→XNk a E H→(1≤1000∧Mk0 a.c_NoKinds H1 fun v H1=>∃e C d,v=.ref e∧H1 e=some (xo e C d)∧Xm K C∧E (.ref C) (some e) (upd H1 e (xr e C d))):=fun H1 s1 z=>
   ⟨by decide,fun e he=>⟨e,_,none,rfl,upd_same,T.x_NoKinds,z e _ (s1.trans (same_upd2 he)) (.bare upd_same)⟩⟩
  rcases q with⟨l,rfl,hl,hk,q⟩|⟨⟨l,rfl,hl,hk⟩ | o,q⟩
  ·exact⟨_,rfl,.inl ⟨l,rfl,hl,fun H2 s2=>⟨_,rfl,by rw[hk];exact iteF (q H2 s2)⟩⟩⟩
  ·exact⟨_,rfl,.inl ⟨l,rfl,hl,fun H2 s2=>⟨_,rfl,by rw[hk];exact iteT (up H2 s2 q)⟩⟩⟩
  ·exact⟨_,rfl,.inr ⟨o,_,rfl,iteT (up H (Same.refl _) q)⟩⟩
theorem sc_lwords:FnScope ["_law_script","_law_kinds_here","_law_found","_law_k","_law_cell","_law_word"] ["_law_script","_law_kinds_here"] (defScope s_lwords):=⟨rfl,rfl,rfl,by decide +kernel,rfl,by decide +kernel,by decide +kernel⟩
theorem ok_lwords (T:Txt K mg a):FnOk P w K mg base CX0 3 a.f_lwords a.d_lwords ["_law_script","_law_kinds_here"] (sp_lwords K a):=by
 refine T.f_lwords.ok sc_lwords (fun vs H Q E h=>?_) (fun cdv A outer s H vs Q E hr h=>?_)
 ·obtain⟨_,_,_,rfl,_⟩:=h;rfl
 ·have hu64:=hr.units
  have hu1:=Nat.lt_of_le_of_lt (Nat.add_le_add_left (show 1≤64 by decide) _) hu64
  obtain⟨b,ns,m,rfl,hS,hl,ok,q⟩:=h
  refine⟨_,(pss_cons (ps_set (i:=2) sc_lwords.nd rfl (Or.inl rfl) (pe_lst pa_nil))
   (pss_cons (ps_for PassesOwn.never rfl (pi_enum rfl T.z_enumerate (pa_cons (pe_op op_cat (pe_slice (sl_listK (K:=K) rfl) (pv 0) (po_some pe_int) (po_some pe_int)) (pe_lst (pa_cons pe_int pa_nil))) pa_nil)) (pg_tup rfl (pgs_cons (pg_name (i:=3) sc_lwords.nd rfl (Or.inl rfl)) (pgs_cons (pg_name (i:=4) sc_lwords.nd rfl (Or.inl rfl)) pgs_nil)))
   (pss_cons (ps_set (i:=5) sc_lwords.nd rfl (Or.inl rfl) (pe_call (ok_drawn T) (hr.mono (by decide)) rfl T.m_drawn T.f_drawn.kp T.b_drawn .nil pass0 (pa_cons (pv 4) (pa_cons (pe_cmpR (op_eqDK (K:=K) rfl hu64) (pe_op op_mod (pv 3) pe_int) pe_int (nomark _)) (pa_cons (pv 1) (pa_cons (pe_op op_add pe_int (pe_op op_mod (pe_call (ok_mixed T) (hr.mono (by decide)) rfl T.m_mixed T.f_mixed.kp T.b_mixed .nil pass0 (pa_cons (pv 4) (pa_cons pe_int pa_nil))) (pe_ix (ix_listK (K:=K) rfl) (pe_lst (pa_cons pe_int (pa_cons pe_int (pa_cons pe_int pa_nil)))) (pe_op op_mod (pe_call (ok_mixed T) (hr.mono (by decide)) rfl T.m_mixed T.f_mixed.kp T.b_mixed .nil pass0 (pa_cons (pv 4) (pa_cons pe_int pa_nil))) pe_int) (fun _ _=>rfl)))) pa_nil))))))
   (pss_one (ps_if (pt_cmpR (op_notIn_seqK (K:=K) rfl) (pv 5) (pv 2) rfl) (pss_one (ps_expr (pe_bm PySem.F.plainAttrs_list PySem.F.slot_list_append PySem.F.type_list_append mt_append (pv 2) (pa_cons (pv 5) pa_nil)))) pss_nil))))
   (pss_one (ps_ret (pv 2))))),?_⟩
  have m1:=ok.m1
  have m4:=ok.m4
  have sz:∀k:Nat,k≤1000→k≤sizeLine:=fun k h=>Nat.le_trans h (by rw[sizeLine_eq];decide)
  walk_at "rd"
  refine⟨Nat.zero_le _,NewL.of fun pf H1 s1 n1 l1=>⟨_,rfl,_,rfl,b,_,rfl,s1.seq hS,fun pq nq=>⟨sz _ (by decide),NewL.of fun p5 H3 s3 n3 l3=>?_⟩⟩⟩
  have s2:Same H1 (upd H1 pq (.lst (cutV (ns.map V.int) (some 1) (some 47)))):=same_upd nq
  have hq:upd H1 pq (.lst (cutV (ns.map V.int) (some 1) (some 47))) pq=some (.lst (cutV (ns.map V.int) (some 1) (some 47))):=upd_same
  have lc:(cutV (ns.map V.int) (some 1) (some 47)).length≤46:=cutV_46 _
  have ac:∀v∈cutV (ns.map V.int) (some 1) (some 47),∃c,v=V.int c:=fun v hv=>cutV_ints hv
  generalize cutV (ns.map V.int) (some 1) (some 47)=cs at s2 hq lc ac s3
  generalize upd H1 pq (.lst cs)=H2 at s2 hq s3 n3
  refine⟨pq,p5,cs,_,rfl,rfl,s3 _ _ hq,l3,by rw[sizeLine_eq];simp;omega,fun pc nc=>?_⟩
  have s4:Same H3 (upd H3 pc (.lst (cs++[V.int 5]))):=same_upd nc
  have hc:upd H3 pc (.lst (cs++[V.int 5])) pc=some (.lst (cs++[V.int 5])):=upd_same
  generalize upd H3 pc (.lst (cs++[V.int 5]))=H4 at s4 hc
  have ac:∀v∈cs++[V.int 5],∃c,v=V.int c:=fun v hv=>by
   rcases List.mem_append.mp hv with z | z
   ·exact ac v z
   ·exact⟨5,List.mem_singleton.mp z⟩
  have lc:(cs++[V.int 5]).length≤47:=by rw[List.length_append];show _+1≤47;omega
  generalize cs++[V.int 5]=es at hc ac lc
  have f4:=(s2.trans (s3.trans s4)) _ _ l1
  have nfc:pc≠pf:=fun z=>by rw[z,(s2.trans s3) _ _ l1]at nc;cases nc
  have s04:=s1.trans (s2.trans (s3.trans s4))
  refine⟨pc,rfl,⟨_,.mk hc⟩,ForRun.enum (xs:=es) (fun i σ H'=>∃v3 v4 v5 ws,σ=[some (.ref b),some (tx m),some (.ref pf),v3,v4,v5]∧Same H H'∧H' pc=some (.lst es)∧H' pf=some (.lst (ws.map tx))∧GoodL m ws∧ws.length≤i) ⟨_,_,_,[],rfl,s04,hc,f4,⟨List.nodup_nil,fun w hw=>by cases hw⟩,Nat.le_refl _⟩ (fun i σ H' _ ⟨_,_,_,_,_,_,k,_⟩=>.mk k) ?_ ?_⟩
  ·rintro i z p6 σ H5 hz ⟨v3,v4,v5,ws,rfl,s5,c5,f5,gd,lw⟩ n6
   obtain⟨c0,rfl⟩:=ac z (List.mem_of_getElem? hz)
   have hi:=(List.getElem?_eq_some_iff.mp hz).1
   have s6:Same H5 (upd H5 p6 (.tup [.int i,.int c0])):=same_upd n6
   walk_at "rd"
   refine⟨p6,_,rfl,.mk upd_same,rfl,_,_,rfl,_,_,rfl,rfl,?_⟩
   generalize upd H5 p6 (.tup [.int i,.int c0])=H6 at s6
   walk_at "rd?"
   refine⟨by decide,.inl ⟨rfl,_,_,rfl,fun r7 h7=>⟨sz _ (by decide),NewL.of fun p8 H8 s8 n8 l8=>⟨_,_,rfl,fun r8 h8=>?_⟩⟩⟩⟩
   walk_at "rd?"
   obtain⟨k,hk0,hk1,hk⟩:=at3 r8
   refine⟨by decide,p8,_,_,_,rfl,rfl,.mk l8,hk,?_⟩
   walk_at "rd?"
   have e0:=Int.emod_nonneg r7 (show k≠0 by omega)
   have e1:=Int.emod_lt_of_pos r7 (show 0<k by omega)
   refine⟨by omega,_,_,m,_,rfl,m1,m4,by omega,by omega,fun l ll lm=>?_⟩
   have f8:=(s6.trans s8) _ _ f5
   have c8:=(s6.trans s8) _ _ c5
   have s08:=s5.trans (s6.trans s8)
   refine⟨pf,_,rfl,.inl (.mk f8),rfl,flat_tx _,_,rfl,?_⟩
   rw[if_pos rfl,inV_tx]
   refine ite2 (fun h=>?_) (fun h=>?_)
   ·have nin:l∉ws:=fun z=>by rw[decide_eq_true z]at h;cases h
    refine⟨.inl ⟨rfl,_,.mk f8⟩,pf,_,_,rfl,rfl,f8,by rw[List.length_map,sizeLine_eq];omega,_,_,_,ws++[l],rfl,same_upd3' n1 s08,by rw[upd_ne nfc];exact c8,?_,gd.snoc nin (fun z=>by rw[z]at ll;simp at ll;omega) (by omega) lm,by rw[List.length_append];show _+1≤_;omega⟩
    rw[upd_same,List.map_append];rfl
   ·exact⟨_,_,_,ws,rfl,s08,c8,f8,gd,by omega⟩
  ·rintro σ H5 ⟨v3,v4,v5,ws,rfl,s5,c5,f5,gd,lw⟩
   walk_at "rd"
   exact q pf ws H5 s5 n1 f5 gd (by omega)
theorem sc_avoided:FnScope ["_law_words_here","_law_kinds_here","_law_cell","_law_word","_law_due","_law_one","_law_at","_law_found"] ["_law_words_here","_law_kinds_here","_law_cell"] (defScope s_avoided):=⟨rfl,rfl,rfl,by decide +kernel,rfl,by decide +kernel,by decide +kernel⟩
theorem ok_avoided (T:Txt K mg a):FnOk P w K mg base CX0 3 a.f_avoided a.d_avoided ["_law_words_here","_law_kinds_here","_law_cell"] (sp_avoided K a):=by
 refine T.f_avoided.ok sc_avoided (fun vs H Q E h=>?_) (fun cdv A outer s H vs Q E hr h=>?_)
 ·obtain⟨_,_,_,_,rfl,_⟩:=h;rfl
 ·have hu64:=hr.units
  have hu1:=Nat.lt_of_le_of_lt (Nat.add_le_add_left (show 1≤64 by decide) _) hu64
  obtain⟨b,ws,m,c,rfl,hb,gd,hn,ok,q⟩:=h
  refine⟨_,(pss_cons (ps_set (i:=3) sc_avoided.nd rfl (Or.inl rfl) (pe_call (ok_drawn T) (hr.mono (by decide)) rfl T.m_drawn T.f_drawn.kp T.b_drawn .nil pass0 (pa_cons (pv 2) (pa_cons pe_bl (pa_cons (pv 1) (pa_cons (pe_op op_mod (pe_call (ok_mixed T) (hr.mono (by decide)) rfl T.m_mixed T.f_mixed.kp T.b_mixed .nil pass0 (pa_cons (pv 2) (pa_cons pe_int pa_nil))) pe_int) pa_nil))))))
   (pss_hold (pss_cons (ps_set (i:=4) sc_avoided.nd rfl (Or.inl rfl) pe_bl)
   (pss_hold (pss_cons (ps_for PassesOwn.never rfl (pi_listK (K:=K) rfl (pv 0)) (pg_name (i:=5) sc_avoided.nd rfl (Or.inl rfl))
   (pss_one (ps_for PassesOwn.never rfl (pi_range1 rfl T.z_range (pa_cons (pe_callB (call_lenK (K:=K) rfl) rfl T.z_len bt_len (pa_cons (pv 3) pa_nil)) pa_nil)) (pg_name (i:=6) sc_avoided.nd rfl (Or.inl rfl))
   (pss_one (ps_if (pt_cmpR (op_eqDK (K:=K) rfl hu64) (pe_slice sl_tx (pv 3) (po_some (pv 6)) (po_some (pe_op op_add (pv 6) (pe_callB (call_lenK (K:=K) rfl) rfl T.z_len bt_len (pa_cons (pv 5) pa_nil))))) (pv 5) (nomark _)) (pss_one (ps_set (i:=4) sc_avoided.nd rfl (Or.inl rfl) pe_bl)) pss_nil)))))
   (pss_hold (pss_cons (ps_set (i:=7) sc_avoided.nd rfl (Or.inl rfl) (pe_call (ok_avoids T) (hr.mono (by decide)) rfl T.m_avoids T.f_avoids.kp T.b_avoids .nil pass0 (pa_cons (pv 0) (pa_cons (pv 3) pa_nil))))
   (pss_one (ps_ret (pe_and (pe_callB (call_isinstR (K:=K) rfl) rfl T.z_isinstance bt_isinstance (pa_cons (pv 7) (pa_cons (pe_bltn (v:=.ty "bool") rfl T.z_bool bt_bool rfl) pa_nil))) (pe_one (pe_cmpR (op_eqDK (K:=K) rfl hu64) (pv 7) (pv 4) (nomark _))))))))))))),?_⟩
  have sz:∀k:Nat,k≤1000→k≤sizeLine:=fun k h=>Nat.le_trans h (by rw[sizeLine_eq];decide)
  walk_at "rd"
  refine⟨_,_,rfl,fun r _=>?_⟩
  walk_at "rd?"
  refine⟨by decide,?_⟩
  have r0:=Int.emod_nonneg r (show (20:Int)≠0 by decide)
  have r1:=Int.emod_lt_of_pos r (show (0:Int)<20 by decide)
  refine⟨_,_,m,_,rfl,ok.m1,ok.m4,r0,by omega,fun l ll lm=>?_⟩
  have l20:l.length≤20:=by omega
  refine hold_of ?_
  walk_at "rd"
  refine hold_of ?_
  walk_at "rd"
  refine⟨b,rfl,⟨_,.mk hb⟩,ForRun.list (xs:=ws.map tx) (fun i σ H'=>∃v5 v6,σ=[some (.ref b),some (tx m),some (.int c),some (tx l),some (.bl (avB (ws.take i) l)),v5,v6,none]∧Same H H') ⟨_,_,rfl,Same.refl _⟩ (fun i σ H' _ ⟨_,_,_,s⟩=>.mk (s _ _ hb)) ?_ ?_⟩
  ·rintro i x σ H1 hx ⟨v5,v6,rfl,s1⟩
   rw[List.getElem?_map]at hx
   obtain⟨w,hw,rfl⟩:=Option.map_eq_some_iff.mp hx
   have gw:=gd.2 w (List.mem_of_getElem? hw)
   walk_at "rd"
   refine⟨_,_,rfl,lenTx (by omega),_,rfl,by omega,by omega,?_⟩
   rw[Int.toNat_natCast]
   refine ForRun.range (fun j σ H'=>∃v6,σ=[some (.ref b),some (tx m),some (.int c),some (tx l),some (.bl (avB (ws.take i) l&&!((List.range j).any fun k=>decide ((l.drop k).take w.length=w)))),some (tx w),v6,none]∧Same H H') ⟨v6,by simp,s1⟩ ?_ ?_
   ·rintro j σ H2 hj ⟨v6',rfl,s2⟩
    have q1:(0+(j:Int))=((j:Nat):Int):=by omega
    have q2:(0+(j:Int)+(w.length:Int))=((j+w.length:Nat):Int):=by omega
    walk_at "rd"
    refine⟨_,rfl,_,_,rfl,lenTx (by omega),_,rfl,l,rfl,sz _ (by omega),?_⟩
    rw[q2,q1,cut_nn,Nat.add_sub_cancel_left]
    refine .inl ⟨rfl,_,rfl,?_⟩
    rw[if_neg Bool.false_ne_true,dec_tx,any_next]
    refine ite2 (fun h=>?_) (fun h=>?_)
    ·rw[h]
     exact⟨some (.int (j:Nat)),by simp,s2⟩
    ·rw[Bool.eq_false_iff.mpr h]
     exact⟨some (.int (j:Nat)),by simp,s2⟩
   ·rintro σ H2 ⟨v6',rfl,s2⟩
    rw[any_inf gw.1,←avB_next hw]
    exact⟨_,_,rfl,s2⟩
  ·rintro σ H1 ⟨v5,v6,rfl,s1⟩
   rw[List.length_map,List.take_length]
   walk_at "rd?"
   refine hold_of ?_
   walk_at "rd"
   exact⟨b,ws,l,rfl,s1 _ _ hb,by omega,by omega,fun H2 s2=>⟨_,_,_,_,true,rfl,rfl,.ty (.pl (.bl _)),kit_ss,iteT (eq_bl (q H2 (s1.trans s2)))⟩⟩
theorem sc_need_list:FnScope ["words","kinds","ahead","word"] ["words","kinds"] (defScope s_need_list):=⟨rfl,rfl,rfl,by decide +kernel,rfl,by decide +kernel,by decide +kernel⟩
theorem ok_need_list (T:Txt K mg a):FnOk P w K mg base (CXr P w) 4 a.f_need_list a.d_need_list ["words","kinds"] (sp_need_list K a):=by
 refine T.f_need_list.okX sc_need_list (fun vs H Q E h=>?_) (fun cdv A outer s H vs Q E hr h=>?_)
 ·obtain⟨_,_,rfl,_⟩:=h;rfl
 ·have hu64:=hr.units
  have hu1:=Nat.lt_of_le_of_lt (Nat.add_le_add_left (show 1≤64 by decide) _) hu64
  obtain⟨v,u,rfl,q⟩:=h
  refine⟨_,(pss_cons (ps_expr (pe_call (ok_need_kinds T) (hr.mono (by decide)) rfl T.m_need_kinds T.f_need_kinds.kp T.b_need_kinds .nil pass_on (pa_cons (pv 1) pa_nil)))
   (pss_hold (pss_cons (ps_if (PW.pt (pw_or (pt_not (pt_val (pe_callB (call_isinstR (K:=K) rfl) rfl T.z_isinstance bt_isinstance (pa_cons (pv 0) (pa_cons (pe_bltn (v:=.ty "list") rfl T.z_list bt_list rfl) pa_nil))))) (pw_or1 (pt_cmpR op_gt (pe_callB (call_lenK (K:=K) rfl) rfl T.z_len bt_len (pa_cons (pv 0) pa_nil)) (pe_globI rfl T.c_MOST_WORDS) (nomark _))))) (pss_one (ps_raise cx_raises rfl (pe_xmake T.x_NoList T.i_NoList T.fn_NoList (ok_NoList_init T) (hr.mono (by decide)) T.b_NoList pass0 rfl T.m_NoList (pa_cons pe_non pa_nil)))) pss_nil)
   (pss_hold (pss_cons (ps_set (i:=2) sc_need_list.nd rfl (Or.inl rfl) pe_dnewK)
   (pss_hold (pss_one (ps_for own_lv rfl (pi_listK (K:=K) rfl (pv 0)) (pg_name (i:=3) sc_need_list.nd rfl (Or.inl rfl))
   (pss_cons (ps_if (PW.pt (pw_or (pt_not (pt_val (pe_call (ok_is_word T) (hr.mono (by decide)) rfl T.m_is_word T.f_is_word.kp T.b_is_word .nil pass0 (pa_cons (pv 3) (pa_cons (pv 1) (pa_cons (pe_globI rfl T.c_MOST_IN_LIST) pa_nil)))))) (pw_or (pt_cmpR (op_eqDK (K:=K) rfl hu64) (pv 3) (pe_strT (l:=[]) (by decide +kernel)) (nomark _)) (pw_or1 (pt_cmp (pc_din hu1 (pv 3) (pv 2))))))) (pss_one (ps_raise cx_raises rfl (pe_xmake T.x_NoList T.i_NoList T.fn_NoList (ok_NoList_init T) (hr.mono (by decide)) T.b_NoList pass0 rfl T.m_NoList (pa_cons (pv 3) pa_nil)))) pss_nil)
   (pss_one (ps_dput hu1 (pv 2) (pv 3) pe_bl rfl))))))))))),?_⟩
  have sz:∀k:Nat,k≤1000→k≤sizeLine:=fun k h=>Nat.le_trans h (by rw[sizeLine_eq];decide)
  have q':(BadK K H u∧XNk a E H)∨(∃m,u=tx m∧KOk m∧NotL K H v∧XNl a E H .non)∨∃p ws r m,v=.ref p∧u=tx m∧KOk m∧H p=some (.lst (ws.map tx++r))∧GoodL m ws∧ws.length+r.length≤200∧((r=[]∧∀H2,Same H H2→Q .non H2)∨∃x rest,r=x::rest∧Spoil K H m ws x∧XNl a E H x):=by
   rcases q with⟨p,ws,m,e1,e2,kok,hS,gd,ln,q⟩ | z | z | ⟨p,ws,x,rest,m,e1,e2,kok,hS,gd,ln,sp,xn⟩
   ·exact .inr (.inr ⟨p,ws,[],m,e1,e2,kok,by rw[List.append_nil];exact hS,gd,ln,.inl ⟨rfl,q⟩⟩)
   ·exact .inl z
   ·exact .inr (.inl z)
   ·exact .inr (.inr ⟨p,ws,x::rest,m,e1,e2,kok,hS,gd,by rw[List.length_cons];omega,.inr ⟨x,rest,rfl,sp,xn⟩⟩)
  have up:∀v0 H1,Same H H1→XNl a E H v0→(1≤1000∧MkI (spInit K a.c_NoList 1 (fs1 (Str.ofString "word"))) E0 a.c_NoList [v0] H1 fun v H1=>∃e C d,v=.ref e∧H1 e=some (xo e C d)∧Xm K C∧E (.ref C) (some e) (upd H1 e (xr e C d))):=fun v0 H1 s1 z=>
   ⟨by decide,MkI.of rfl fun e H2 s2 n2 x2=>by
    obtain⟨d,hd,hx⟩:=raise_any x2
    exact⟨e,_,d,rfl,hd,T.x_NoList,z e _ (s1.trans (same_upd3 s2 n2)) hx⟩⟩
  walk_at "rd"
  rcases q' with⟨bk,x⟩|⟨m,rfl,kok,nl,x⟩|⟨p,ws,r,m,rfl,rfl,kok,hS,gd,ln,q⟩
  ·exact⟨_,rfl,.inr ⟨bk,x⟩⟩
  ·have m4:=kok.m4
   refine⟨_,rfl,.inl ⟨m,rfl,by omega,kok.k,fun H1 s1=>?_⟩⟩
   show tHold _ _ _ _
   refine hold_of ?_
   walk_at "rd"
   rcases nl with⟨T0,ty,k⟩|⟨p,xs,rfl,hp,h2,h3⟩
   ·exact⟨_,_,_,_,false,rfl,rfl,.ty (TyX.same ty s1),k,iteT (iteT' (up _ _ s1 x))⟩
   ·have h1:=s1 _ _ hp
    exact⟨_,_,_,_,true,rfl,rfl,.ty (.seqL (.mk h1)),kit_ss,iteF ⟨_,_,rfl,.inl ⟨_,.mk h1,rfl⟩,ite2 (fun _=>up _ _ s1 x) (fun h=>absurd (decide_eq_true (by omega:(200:Int)<xs.length)) h)⟩⟩
  ·have m4:=kok.m4
   refine⟨_,rfl,.inl ⟨m,rfl,by omega,kok.k,fun H1 s1=>?_⟩⟩
   show tHold _ _ _ _
   refine hold_of ?_
   walk_at "rd"
   have h1:=s1 _ _ hS
   have lx:(ws.map tx++r).length=ws.length+r.length:=by rw[List.length_append,List.length_map]
   refine⟨_,_,_,_,true,rfl,rfl,.ty (.seqL (.mk h1)),kit_ss,iteF ⟨_,_,rfl,.inl ⟨_,.mk h1,rfl⟩,ite2 (fun h=>absurd (of_decide_eq_true h) (by rw[lx];omega)) (fun _=>hold_of ?_)⟩⟩
   walk_at "rd"
   intro pd npd
   have s2:Same H1 (upd H1 pd (.dK [])):=same_upd npd
   have l2:upd H1 pd (.dK []) pd=some (.dK []):=upd_same
   generalize upd H1 pd (.dK [])=H2 at s2 l2
   refine hold_of ?_
   walk_at "rd"
   refine⟨p,rfl,⟨_,.mk (s2 _ _ h1)⟩,ForRun.list (xs:=ws.map tx++r) (fun i σ H'=>∃v3 kvs,σ=[some (.ref p),some (tx m),some (.ref pd),v3]∧Same H1 H'∧H' pd=some (.dK kvs)∧i≤ws.length∧kvs.length≤i∧∀w,(valV kvs (kTx w)).isSome=true↔w∈ws.take i) ⟨_,[],rfl,s2,l2,Nat.zero_le _,Nat.le_refl _,fun w=>by rw[List.take_zero];exact Iff.intro (fun z=>Bool.noConfusion z) (fun z=>nomatch z)⟩ (fun i σ H' _ ⟨_,_,_,s,_⟩=>.mk (s _ _ h1)) ?_ ?_⟩
   ·rintro i x σ H3 hx ⟨v3,kvs,rfl,s3,h3,hi,nk,hv⟩
    have s03:=s1.trans s3
    walk_at "rd"
    by_cases hlt:i<ws.length
    ·obtain⟨w,hw⟩:∃w,ws[i]?=some w:=⟨_,List.getElem?_eq_getElem hlt⟩
     have ex:x=tx w:=by
      rw[List.getElem?_append_left (by rw[List.length_map];exact hlt),List.getElem?_map,hw]at hx
      exact(Option.some.inj hx).symm
     subst ex
     have mw:=List.mem_of_getElem? hw
     have gw:=gd.2 w mw
     have ni:w∉ws.take i:=fun z=>by
      have e:=List.getElem_of_mem z
      obtain⟨j,hj,e⟩:=e
      rw[List.getElem_take]at e
      rw[List.length_take]at hj
      have hi2:=(List.getElem?_eq_some_iff.mp hw).2
      exact List.pairwise_iff_getElem.mp gd.1 j i (by omega) hlt (by omega) (e.trans hi2.symm)
     refine⟨_,_,_,rfl,.inl ⟨w,rfl,by omega,fun H4 s4=>⟨_,rfl,?_⟩⟩⟩
     rw[gd.isw mw]
     refine iteF (.inl ⟨rfl,_,rfl,?_⟩)
     rw[if_neg Bool.false_ne_true,dec_tx,decide_eq_false gw.1]
     have h4:=s4 _ _ h3
     refine iteF ⟨pd,_,rfl,DGet.k (k:=kTx w) h4,?_⟩
     have ev:(valV kvs (kTx w)).isSome=false:=Bool.eq_false_iff.mpr fun z=>ni ((hv w).mp z)
     rw[ev]
     refine iteF ⟨pd,_,rfl,DPut.k (k:=kTx w) h4 (Nat.lt_of_lt_of_le (show _<1000 by omega) (sz 1000 (Nat.le_refl _))),_,putK kvs (kTx w) (.bl true),rfl,same_upd3 (s3.trans s4) npd,upd_same,hlt,?_,fun w'=>?_⟩
     ·have:=length_putK kvs (kTx w) (.bl true);omega
     ·rw[valV_put,take_next hw,List.mem_append,List.mem_singleton]
      by_cases e:w'=w
      ·rw[if_pos (by rw[e])];exact Iff.intro (fun _=>.inr e) (fun _=>rfl)
      ·rw[if_neg (fun z=>e (kTx_inj z)),hv];exact Iff.intro .inl (fun z=>z.elim id (fun z=>absurd z e))
    ·have ei:i=ws.length:=by omega
     subst ei
     rw[List.getElem?_append_right (by rw[List.length_map];exact Nat.le_refl _),List.length_map,Nat.sub_self]at hx
     rcases q with⟨rfl,_⟩|⟨x',rest,rfl,sp,xn⟩
     ·cases hx
     ·cases hx
      rcases Spoil.same sp s03 with (⟨l,rfl,hl,hk⟩ | o) | rfl | ⟨w,mw,rfl⟩
      ·refine⟨_,_,_,rfl,.inl ⟨l,rfl,hl,fun H4 s4=>⟨_,rfl,?_⟩⟩⟩
       rw[hk]
       exact iteT (iteT' (up _ _ (s03.trans s4) xn))
      ·exact⟨_,_,_,rfl,.inr ⟨o,_,rfl,iteT (iteT' (up _ _ s03 xn))⟩⟩
      ·refine⟨_,_,_,rfl,.inl ⟨[],rfl,by decide,fun H4 s4=>⟨_,rfl,?_⟩⟩⟩
       rw[isw_yes (by decide) (fun x hx=>by cases hx)]
       refine iteF (.inl ⟨rfl,_,rfl,?_⟩)
       rw[if_neg Bool.false_ne_true,dec_tx,decide_eq_true rfl]
       exact iteT (iteT' (up _ _ (s03.trans s4) xn))
      ·have gw:=gd.2 w mw
       refine⟨_,_,_,rfl,.inl ⟨w,rfl,by omega,fun H4 s4=>⟨_,rfl,?_⟩⟩⟩
       rw[gd.isw mw]
       refine iteF (.inl ⟨rfl,_,rfl,?_⟩)
       rw[if_neg Bool.false_ne_true,dec_tx,decide_eq_false gw.1]
       have h4:=s4 _ _ h3
       refine iteF ⟨pd,_,rfl,DGet.k (k:=kTx w) h4,?_⟩
       rw[(hv w).mpr (by rw[List.take_length];exact mw)]
       exact iteT (up _ _ (s03.trans s4) xn)
   ·rintro σ H3 ⟨v3,kvs,rfl,s3,h3,hi,nk,hv⟩
    rw[lx]at hi
    rcases q with⟨_,q⟩|⟨x,rest,rfl,_⟩
    ·exact q H3 (s1.trans s3)
    ·rw[List.length_cons]at hi;omega
theorem sc_strip_of:FnScope ["words","kinds","ordered","ways","ended","text"] ["words","kinds"] (defScope s_strip_of):=⟨rfl,rfl,rfl,by decide +kernel,rfl,by decide +kernel,by decide +kernel⟩
theorem ok_strip_of (T:Txt K mg a):FnOk P w K mg base (CXr P w) 5 a.f_strip_of a.d_strip_of ["words","kinds"] (sp_strip_of K a):=by
 refine T.f_strip_of.okX sc_strip_of (fun vs H Q E h=>?_) (fun cdv A outer s H vs Q E hr h=>?_)
 ·obtain⟨_,_,rfl,_⟩:=h;rfl
 ·have hu64:=hr.units
  have hu1:=Nat.lt_of_le_of_lt (Nat.add_le_add_left (show 1≤64 by decide) _) hu64
  obtain⟨v,u,rfl,q⟩:=h
  refine⟨_,(pss_cons (ps_expr (pe_call (ok_need_list T) (hr.mono (by decide)) rfl T.m_need_list T.f_need_list.kp T.b_need_list .nil pass_on (pa_cons (pv 0) (pa_cons (pv 1) pa_nil))))
   (pss_cons ps_no
   (pss_cons ps_no
   (pss_cons ps_no
   (pss_cons ps_no
   (pss_cons ps_no
   (pss_cons ps_no
   (pss_cons ps_no
   (pss_cons ps_no
   (pss_one ps_no)))))))))),?_⟩
  walk_at "rd"
  exact⟨v,u,rfl,.inr q⟩
theorem sc_told:FnScope ["_law_words_here","_law_kinds_here","_law_asked","_law_found","e"] ["_law_words_here","_law_kinds_here","_law_asked"] (defScope s_told):=⟨rfl,rfl,rfl,by decide +kernel,rfl,by decide +kernel,by decide +kernel⟩
theorem ok_told (T:Txt K mg a):FnOk P w K mg base CX0 6 a.f_told a.d_told ["_law_words_here","_law_kinds_here","_law_asked"] (sp_told K a):=by
 refine T.f_told.ok sc_told (fun vs H Q E h=>?_) (fun cdv A outer s H vs Q E hr h=>?_)
 ·obtain⟨_,_,_,rfl,_⟩:=h;rfl
 ·have hu64:=hr.units
  have hu1:=Nat.lt_of_le_of_lt (Nat.add_le_add_left (show 1≤64 by decide) _) hu64
  obtain⟨v,u,b,rfl,q⟩:=h
  refine⟨_,(pss_cons (ps_set (i:=3) sc_told.nd rfl (Or.inl rfl) pe_non)
   (pss_hold (pss_cons (ps_try rfl rfl (pssx_one (psx_if (pt_val (pv 2)) (pssx_one (psx_expr (pex_call (ok_strip_of T) (hr.mono (by decide)) rfl T.m_strip_of T.f_strip_of.kp T.b_strip_of .nil (pa_cons (pv 0) (pa_cons (pv 1) pa_nil))))) (pssx_one (psx_expr (pex_call (ok_need_list T) (hr.mono (by decide)) rfl T.m_need_list T.f_need_list.kp T.b_need_list .nil (pa_cons (pv 0) (pa_cons (pv 1) pa_nil))))))) (ph_as (i:=4) (fun _=>hr.hd) rfl T.m_LackError sc_told.nd rfl rfl (fun _=>(pss_one (ps_set (i:=3) sc_told.nd rfl (Or.inl rfl) (pv 4)))) ph_nil))
   (pss_hold (pss_cons (ps_if (PW.pt (pw_and (pt_val (pe_callB (call_isinstR (K:=K) rfl) rfl T.z_isinstance bt_isinstance (pa_cons (pv 3) (pa_cons (pe_glob (v:=.ref a.c_NoList) rfl T.m_NoList rfl) pa_nil)))) (pw_and1 (pt_not (pt_val (pe_callB (call_isinstR (K:=K) rfl) rfl T.z_isinstance bt_isinstance (pa_cons (pv 3) (pa_cons (pe_glob (v:=.ref a.c_NoKinds) rfl T.m_NoKinds rfl) pa_nil)))))))) (pss_one (ps_ret (pe_tup (pa_cons (pe_strT (l:=[108,105,115,116]) (by decide +kernel)) (pa_cons (pe_xfldR (K:=K) rfl (pv 3) rfl) pa_nil))))) pss_nil)
   (pss_hold (pss_cons (ps_if (pt_val (pe_callB (call_isinstR (K:=K) rfl) rfl T.z_isinstance bt_isinstance (pa_cons (pv 3) (pa_cons (pe_glob (v:=.ref a.c_NoKinds) rfl T.m_NoKinds rfl) pa_nil)))) (pss_one (ps_ret (pe_tup (pa_cons (pe_strT (l:=[107,105,110,100,115]) (by decide +kernel)) (pa_cons pe_non pa_nil))))) pss_nil)
   (pss_hold (pss_one (ps_ret (pe_tup (pa_cons (pe_strT (l:=[103,111,111,100]) (by decide +kernel)) (pa_cons pe_non pa_nil))))))))))))),?_⟩
  have sz:∀k:Nat,k≤1000→k≤sizeLine:=fun k h=>Nat.le_trans h (by rw[sizeLine_eq];decide)
  have nd:=T.nd
  simp only[List.nodup_cons,List.mem_cons,List.not_mem_nil,or_false,not_or]at nd
  obtain⟨⟨a1,a2⟩,a3,_⟩:=nd
  refine hold_of ?_
  walk_at "rd"
  refine hold_of ?_
  walk_at "rd"
  have xk:=exm_ref (b:=true) T.k_NoKinds T.k_LackError (by simp[List.contains_cons]) (by simp[List.contains_cons])
  have xl:=exm_ref (b:=true) T.k_NoList T.k_LackError (by simp[List.contains_cons]) (by simp[List.contains_cons])
  apply with_tailA (C:=fun e H1=>Same H H1∧((XAny H1 e a.c_NoKinds []∧∀t H2,Same H H2→H2 t=some (.tup [tx [107,105,110,100,115],.non])→Q (.ref t) H2)∨∃x,XAny H1 e a.c_NoList (fs1 "word" [x])∧∀t H2,Same H H2→H2 t=some (.tup [tx [108,105,115,116],x])→Q (.ref t) H2))
  ·intro tail
   refine ite2 (fun _=>⟨v,u,rfl,?bad1⟩) (fun _=>⟨v,u,rfl,.inr ?bad2⟩)
   case bad1 | bad2=>
    rcases id q with⟨bk,q⟩|⟨m,e,kok,nl,q⟩|⟨p,ws,x,rest,m,e1,e2,kok,hS,gd,ln,sp,q⟩
    ·exact .inl ⟨bk,fun e H2 s2 x=>⟨e,_,rfl,rfl,true,xk,iteT (tail e H2 ⟨s2,.inl ⟨x,q⟩⟩)⟩⟩
    ·exact .inr (.inl ⟨m,e,kok,nl,fun e H2 s2 x=>⟨e,_,rfl,rfl,true,xl,iteT (tail e H2 ⟨s2,.inr ⟨_,x,q⟩⟩)⟩⟩)
    ·exact .inr (.inr ⟨p,ws,x,rest,m,e1,e2,kok,hS,gd,ln,sp,fun e H2 s2 x'=>⟨e,_,rfl,rfl,true,xl,iteT (tail e H2 ⟨s2,.inr ⟨_,x',q⟩⟩)⟩⟩)
  ·rintro e H1 ⟨s1,⟨x,q⟩|⟨v0,x,q⟩⟩
   ·refine hold_of ?_
    walk_at "rd"
    refine⟨_,_,_,_,false,rfl,rfl,.exc x T.xi_NoKinds,kit_ref T.k_NoKinds T.k_NoList (by simp[List.contains_cons,a1,a2,a3,Ne.symm a1,Ne.symm a2,Ne.symm a3]) (fun z=>by simp_all),iteF (iteF ?_)⟩
    refine hold_of ?_
    walk_at "rd"
    exact⟨_,_,_,_,true,rfl,rfl,.exc x T.xi_NoKinds,kit_ref T.k_NoKinds T.k_NoKinds (by simp[List.contains_cons]) (fun _=>rfl),iteT ⟨sz _ (by decide),NewT.of fun pt H2 s2 n2 l2=>q pt H2 (s1.trans s2) l2⟩⟩
   ·refine hold_of ?_
    walk_at "rd"
    refine⟨_,_,_,_,true,rfl,rfl,.exc x T.xi_NoList,kit_ref T.k_NoList T.k_NoList (by simp[List.contains_cons]) (fun _=>rfl),iteT ⟨_,_,_,_,false,rfl,rfl,.exc x T.xi_NoList,kit_ref T.k_NoList T.k_NoKinds (by simp[List.contains_cons,a1,a2,a3,Ne.symm a1,Ne.symm a2,Ne.symm a3]) (fun z=>by simp_all),?_⟩⟩
    exact iteT ⟨e,_,_,_,rfl,x,T.x_NoList.c,T.n_NoList_word,fs1_get,sz _ (by decide),NewT.of fun pt H2 s2 n2 l2=>q pt H2 (s1.trans s2) l2⟩
theorem sc_spoiled:FnScope ["_law_some","_law_kinds_here","_law_x","_law_y","_law_words_here","_law_way","_law_asked","_law_at","_law_thing_here","_law_handed","_law_kept"] ["_law_some","_law_kinds_here","_law_x","_law_y"] (defScope s_spoiled):=⟨rfl,rfl,rfl,by decide +kernel,rfl,by decide +kernel,by decide +kernel⟩
theorem ok_spoiled (T:Txt K mg a):FnOk P w K mg base CX0 7 a.f_spoiled a.d_spoiled ["_law_some","_law_kinds_here","_law_x","_law_y"] (sp_spoiled K a):=by
 refine T.f_spoiled.ok sc_spoiled (fun vs H Q E h=>?_) (fun cdv A outer s H vs Q E hr h=>?_)
 ·obtain⟨_,_,_,_,_,rfl,_⟩:=h;rfl
 ·have hu64:=hr.units
  have hu1:=Nat.lt_of_le_of_lt (Nat.add_le_add_left (show 1≤64 by decide) _) hu64
  obtain⟨b,ws,m,x,y,rfl,hb,gd,hn,ok,hx,hy,q⟩:=h
  refine⟨_,(pss_cons (ps_set (i:=4) sc_spoiled.nd rfl (Or.inl rfl) (pe_slice (sl_listK (K:=K) rfl) (pv 0) po_none (po_some pe_int)))
   (pss_hold (pss_cons (ps_set (i:=5) sc_spoiled.nd rfl (Or.inl rfl) (pe_op op_mod (pv 2) pe_int))
   (pss_hold (pss_cons (ps_set (i:=6) sc_spoiled.nd rfl (Or.inl rfl) (pe_cmpR (op_eqDK (K:=K) rfl hu64) (pe_op op_mod (pe_op op_fdiv (pv 2) pe_int) pe_int) pe_int (nomark _)))
   (pss_hold (pss_cons (ps_if (pt_cmpR (op_eqDK (K:=K) rfl hu64) (pv 5) pe_int (nomark _)) (pss_one (ps_ret (pe_cmpR (op_eqDK (K:=K) rfl hu64) (pe_call (ok_told T) (hr.mono (by decide)) rfl T.m_told T.f_told.kp T.b_told .nil pass0 (pa_cons (pe_ix (ix_listK (K:=K) rfl) (pe_lst (pa_cons (pv 4) (pa_cons pe_non pa_nil))) (pe_op op_mod (pe_op op_fdiv (pv 3) pe_int) pe_int) (fun _ _=>rfl)) (pa_cons (pe_ix (ix_listK (K:=K) rfl) (pe_lst (pa_cons (pe_strT (l:=[]) (by decide +kernel)) (pa_cons (pe_strT (l:=[98,97]) (by decide +kernel)) (pa_cons pe_non (pa_cons (pe_strT (l:=[97,97]) (by decide +kernel)) (pa_cons pe_int pa_nil)))))) (pe_op op_mod (pv 3) pe_int) (fun _ _=>rfl)) (pa_cons (pv 6) pa_nil)))) (pe_tup (pa_cons (pe_strT (l:=[107,105,110,100,115]) (by decide +kernel)) (pa_cons pe_non pa_nil))) (nomark _)))) pss_nil)
   (pss_hold (pss_cons (ps_if (pt_cmpR (op_eqDK (K:=K) rfl hu64) (pv 5) pe_int (nomark _)) (pss_cons (ps_set (i:=0) sc_spoiled.nd rfl (Or.inl rfl) (pe_lst (pa_cons pe_non (pa_cons (pe_strT (l:=[97,98]) (by decide +kernel)) (pa_cons (pe_callTy (call_tuple_ofK (K:=K) rfl) rfl T.z_tuple bt_tuple (pa_cons (pv 4) pa_nil)) (pa_cons pe_dnewK (pa_cons pe_int (pa_cons (pe_call (ok_many T) (hr.mono (by decide)) rfl T.m_many T.f_many.kp T.b_many .nil pass0 (pa_cons (pe_strT (l:=[97,98,99,100]) (by decide +kernel)) (pa_cons pe_int pa_nil))) pa_nil))))))))
   (pss_one (ps_ret (pe_call (ok_alike T) (hr.mono (by decide)) rfl T.m_alike T.f_alike.kp T.b_alike .nil pass0 (pa_cons (pe_call (ok_told T) (hr.mono (by decide)) rfl T.m_told T.f_told.kp T.b_told .nil pass0 (pa_cons (pe_ix (ix_listK (K:=K) rfl) (pv 0) (pe_op op_mod (pv 3) pe_int) (fun _ _=>rfl)) (pa_cons (pv 1) (pa_cons (pv 6) pa_nil)))) (pa_cons pe_non pa_nil)))))) pss_nil)
   (pss_hold (pss_cons (ps_set (i:=7) sc_spoiled.nd rfl (Or.inl rfl) (pe_op op_mod (pe_op op_fdiv (pv 2) pe_int) (pe_op op_add (pe_callB (call_lenK (K:=K) rfl) rfl T.z_len bt_len (pa_cons (pv 4) pa_nil)) pe_int)))
   (pss_hold (pss_cons (ps_set (i:=8) sc_spoiled.nd rfl (Or.inl rfl) (pe_call (ok_thing T) (hr.mono (by decide)) rfl T.m_thing T.f_thing.kp T.b_thing .nil pass0 (pa_cons (pv 3) (pa_cons (pv 1) pa_nil))))
   (pss_hold (pss_cons (ps_if (PW.pt (pw_and (pt_cmpR (op_eqDK (K:=K) rfl hu64) (pv 5) pe_int (nomark _)) (pw_and1 (pt_cmpR op_gt (pv 7) pe_int (nomark _))))) (pss_one (ps_set (i:=8) sc_spoiled.nd rfl (Or.inl rfl) (pe_ix (ix_listK (K:=K) rfl) (pv 4) (pe_op op_mod (pv 3) (pv 7)) (fun _ _=>rfl)))) pss_nil)
   (pss_hold (pss_cons (ps_set (i:=9) sc_spoiled.nd rfl (Or.inl rfl) (pe_op op_cat (pe_op op_cat (pe_slice (sl_listK (K:=K) rfl) (pv 4) po_none (po_some (pv 7))) (pe_lst (pa_cons (pv 8) pa_nil))) (pe_slice (sl_listK (K:=K) rfl) (pv 4) (po_some (pv 7)) po_none)))
   (pss_hold (pss_cons (ps_if (pt_cmpR (op_eqDK (K:=K) rfl hu64) (pe_op op_mod (pe_op op_fdiv (pv 3) pe_int) pe_int) pe_int (nomark _)) (pss_one (ps_expr (pe_bm PySem.F.plainAttrs_list PySem.F.slot_list_append PySem.F.type_list_append mt_append (pv 9) (pa_cons pe_non pa_nil)))) pss_nil)
   (pss_hold (pss_cons (ps_set (i:=10) sc_spoiled.nd rfl (Or.inl rfl) (pe_callTy (call_list_ofK (K:=K) rfl) rfl T.z_list bt_list (pa_cons (pv 9) pa_nil)))
   (pss_hold (pss_one (ps_ret (pe_and (pe_call (ok_alike T) (hr.mono (by decide)) rfl T.m_alike T.f_alike.kp T.b_alike .nil pass0 (pa_cons (pe_call (ok_told T) (hr.mono (by decide)) rfl T.m_told T.f_told.kp T.b_told .nil pass0 (pa_cons (pv 9) (pa_cons (pv 1) (pa_cons (pv 6) pa_nil)))) (pa_cons (pv 8) pa_nil))) (pe_one (pe_cmpR (op_eqJ (K:=K) rfl hu64) (pv 9) (pv 10) (nomark _)))))))))))))))))))))))))))),?_⟩
  have m1:=ok.m1
  have m4:=ok.m4
  have sz:∀k:Nat,k≤1000→k≤sizeLine:=fun k h=>Nat.le_trans h (by rw[sizeLine_eq];decide)
  walk_at "rd"
  refine⟨_,rfl,b,_,rfl,.mk hb,fun pw nw=>?_⟩
  have s1:Same H (upd H pw (.lst (cutV (ws.map tx) none (some 150)))):=same_upd nw
  have l1:upd H pw (.lst (cutV (ws.map tx) none (some 150))) pw=some (.lst ((ws.take 150).map tx)):=by rw[upd_same,List.map_take];exact congrArg (fun z=>some (HO.lst z)) (cutV_to _ 150)
  generalize upd H pw (.lst (cutV (ws.map tx) none (some 150)))=H1 at s1 l1
  have gd1:=gd.take 150
  have w150:(ws.take 150).length≤150:=by rw[List.length_take];omega
  generalize ws.take 150=W at l1 gd1 w150
  refine hold_of ?_
  walk_at "rd"
  refine⟨by decide,?_⟩
  obtain⟨wy,ewy⟩:∃wy,wy=x % 5:=⟨_,rfl⟩
  rw[←ewy]
  refine hold_of ?_
  walk_at "rd"
  refine⟨⟨by decide,by decide⟩,by decide,.inl ⟨rfl,?_⟩⟩
  generalize (if false=true then !decide (V.int (x/320 % 2)=V.int 1) else decide (V.int (x/320 % 2)=V.int 1))=ak
  refine hold_of ?_
  walk_at "rd"
  refine .inl ⟨rfl,_,rfl,ite2 (fun _=>?A) (fun _=>hold_of ?B)⟩
  case A=>
   refine⟨sz _ (by decide),NewL.of fun p2 H2 s2 n2 l2=>⟨⟨by decide,by decide⟩,by decide,?_⟩⟩
   obtain⟨v,hv,hm⟩:=atI_ok (xs:=[V.ref pw,V.non]) (i:=y/5 % 2) (by omega) (by show _<(2:Int);omega)
   refine⟨p2,_,_,v,rfl,rfl,.mk l2,hv,sz _ (by decide),NewL.of fun p3 H3 s3 n3 l3=>⟨by decide,?_⟩⟩
   obtain⟨u,hu,hm2⟩:=atI_ok (xs:=[tx [],tx [98,97],V.non,tx [97,97],V.int 3]) (i:=y % 5) (by omega) (by show _<(5:Int);omega)
   have bk:BadK K H3 u:=by
    simp only[List.mem_cons,List.not_mem_nil,or_false]at hm2
    rcases hm2 with rfl | rfl | rfl | rfl | rfl
    ·exact .inl ⟨_,rfl,by decide,by rw[isk_tells];decide +kernel⟩
    ·exact .inl ⟨_,rfl,by decide,by rw[isk_tells];decide +kernel⟩
    ·exact .inr oth_non
    ·exact .inl ⟨_,rfl,by decide,by rw[isk_tells];decide +kernel⟩
    ·exact .inr oth_int
   exact⟨p3,_,_,u,rfl,rfl,.mk l3,hu,v,u,ak,rfl,.inl ⟨bk,fun t H4 s4 h4=>⟨sz _ (by decide),NewT.of fun t2 H5 s5 n5 l5=>eqT_same (.mk (s5 _ _ h4)) (.mk l5) rfl (q H5 (s1.trans (s2.trans (s3.trans (s4.trans s5)))))⟩⟩⟩
  case B=>
   walk_at "rd"
   refine .inl ⟨rfl,_,rfl,ite2 (fun _=>?A) (fun _=>hold_of ?B)⟩
   case A=>
    refine⟨pw,_,rfl,.inl ⟨.mk l1,fun pt nt=>fun pd npd=>?_⟩⟩
    have s2:Same H1 (upd H1 pt (.tup (W.map tx))):=same_upd nt
    have t2:upd H1 pt (.tup (W.map tx)) pt=some (.tup (W.map tx)):=upd_same
    generalize upd H1 pt (.tup (W.map tx))=H2 at s2 t2 npd
    have s3:Same H2 (upd H2 pd (.dK [])):=same_upd npd
    have d3:upd H2 pd (.dK []) pd=some (.dK []):=upd_same
    generalize upd H2 pd (.dK [])=H3 at s3 d3
    refine⟨[97,98,99,100],201,rfl,⟨by rw[isk_tells];decide +kernel,by decide,by decide⟩,by decide,fun h=>absurd h (by decide),fun pm wm H4 s4 n4 l4 gdm lm=>⟨sz _ (by decide),NewL.of fun p5 H5 s5 n5 l5=>⟨by decide,?_⟩⟩⟩
    obtain⟨v,hv,hm⟩:=atI_ok (xs:=[V.non,tx [97,98],V.ref pt,V.ref pd,V.int 0,V.ref pm]) (i:=y % 6) (by omega) (by show _<(6:Int);omega)
    have nl:NotL K H5 v:=by
     simp only[List.mem_cons,List.not_mem_nil,or_false]at hm
     rcases hm with rfl | rfl | rfl | rfl | rfl | rfl
     ·exact .inl ⟨"NoneType",.pl .non,rfl⟩
     ·exact .inl ⟨"str",.pl (.str _),rfl⟩
     ·exact .inl ⟨"tuple",.seqT (.mk ((s3.trans (s4.trans s5)) _ _ t2)),rfl⟩
     ·exact .inl ⟨"dict",.pl (.dK ((s4.trans s5) _ _ d3)),rfl⟩
     ·exact .inl ⟨"int",.pl (.int _),rfl⟩
     ·exact .inr ⟨pm,_,rfl,s5 _ _ l4,by rw[List.length_map,lm];decide,by rw[List.length_map,lm];decide⟩
    exact⟨p5,_,_,v,rfl,rfl,.mk l5,hv,v,tx m,ak,rfl,.inr (.inl ⟨m,rfl,ok,nl,fun t H6 s6 h6=>⟨t,.non,rfl,h6,tame_non,q H6 (s1.trans (s2.trans (s3.trans (s4.trans (s5.trans s6)))))⟩⟩)⟩
   case B=>
    walk_at "rd"
    refine⟨⟨by decide,by decide⟩,_,_,rfl,.inl ⟨_,.mk l1,rfl⟩,?_⟩
    rw[List.length_map]
    obtain⟨at_,eat,hat⟩:∃k:Nat,x/5 % ((W.length:Int)+1)=(k:Int)∧k≤W.length:=by
     have e0:=Int.emod_nonneg (x/5) (show ((W.length:Int)+1)≠0 by omega)
     have e1:=Int.emod_lt_of_pos (x/5) (show 0<(W.length:Int)+1 by omega)
     exact⟨(x/5 % ((W.length:Int)+1)).toNat,by omega,by omega⟩
    rw[eat]
    refine⟨by omega,hold_of ?_⟩
    walk_at "rd"
    apply with_tailW (C:=fun v' H2=>Same H1 H2∧Spoil K H2 m (W.take at_) v')
    ·intro tail
     refine⟨y,m,rfl,ok,fun v H2 s2 bv=>?_⟩
     have l2:=s2 _ _ l1
     refine hold_of ?_
     walk_at "rd"
     have sv:Same H1 H2∧Spoil K H2 m (W.take at_) v:=⟨s2,bv.imp id .inl⟩
     refine .inl ⟨rfl,_,rfl,ite2 (fun _=>ite2 (fun hlt=>?_) (fun _=>tail v H2 sv)) (fun _=>iteF (tail v H2 sv))⟩
     have hlt:(0:Int)<at_:=of_decide_eq_true hlt
     have e0:=Int.emod_nonneg y (show ((at_:Nat):Int)≠0 by omega)
     have e1:=Int.emod_lt_of_pos y hlt
     obtain⟨k,ek⟩:∃k:Nat,y % (at_:Int)=(k:Int):=⟨(y % (at_:Int)).toNat,by omega⟩
     have hk:k<W.length:=by omega
     have mk:W[k]∈W.take at_:=List.mem_take_iff_getElem.mpr ⟨k,by omega,rfl⟩
     refine⟨hlt,pw,_,_,tx W[k],rfl,rfl,.mk l2,?_,tail _ H2 ⟨s2,.inr (.inr ⟨W[k],mk,rfl⟩)⟩⟩
     rw[ek]
     exact atI_nat (by rw[List.getElem?_map,List.getElem?_eq_getElem hk];rfl)
    ·rintro v' H2 ⟨s2,sp⟩
     have l2:=s2 _ _ l1
     refine hold_of ?_
     walk_at "rd"
     refine⟨_,rfl,pw,_,rfl,.mk l2,fun p3 n3=>?_⟩
     have s3:Same H2 (upd H2 p3 (.lst (cutV (W.map tx) none (some (at_:Int))))):=same_upd n3
     have l3:upd H2 p3 (.lst (cutV (W.map tx) none (some (at_:Int)))) p3=some (.lst ((W.take at_).map tx)):=by rw[upd_same,cutV_to,List.map_take]
     generalize upd H2 p3 (.lst (cutV (W.map tx) none (some (at_:Int))))=H3 at s3 l3
     have lt1:((W.take at_).map tx).length≤150:=by rw[List.length_map,List.length_take];omega
     have ld1:((W.drop at_).map tx).length=W.length-at_:=by rw[List.length_map,List.length_drop]
     refine⟨sz _ (by decide),NewL.of fun p4 H4 s4 n4 l4=>⟨p3,p4,_,_,rfl,rfl,s4 _ _ l3,l4,sz _ (by show _+1≤1000;omega),fun p5 n5=>?_⟩⟩
     have s5:Same H4 (upd H4 p5 (.lst ((W.take at_).map tx++[v']))):=same_upd n5
     have l5:upd H4 p5 (.lst ((W.take at_).map tx++[v'])) p5=some (.lst ((W.take at_).map tx++[v'])):=upd_same
     generalize upd H4 p5 (.lst ((W.take at_).map tx++[v']))=H5 at s5 l5
     have s25:=s3.trans (s4.trans s5)
     refine⟨_,rfl,pw,_,rfl,.mk (s25 _ _ l2),fun p6 n6=>?_⟩
     have s6:Same H5 (upd H5 p6 (.lst (cutV (W.map tx) (some (at_:Int)) none))):=same_upd n6
     have l6:upd H5 p6 (.lst (cutV (W.map tx) (some (at_:Int)) none)) p6=some (.lst ((W.drop at_).map tx)):=by rw[upd_same,cutV_from,List.map_drop]
     generalize upd H5 p6 (.lst (cutV (W.map tx) (some (at_:Int)) none))=H6 at s6 l6
     refine⟨p5,p6,_,_,rfl,rfl,s6 _ _ l5,l6,sz _ (by rw[List.length_append,ld1];show _+1+_≤1000;omega),fun p7 n7=>?_⟩
     have e7:(W.take at_).map tx++[v']++(W.drop at_).map tx=(W.take at_).map tx++v'::(W.drop at_).map tx:=by rw[List.append_assoc];rfl
     rw[e7]
     have s7:Same H6 (upd H6 p7 (.lst ((W.take at_).map tx++v'::(W.drop at_).map tx))):=same_upd n7
     have l7:upd H6 p7 (.lst ((W.take at_).map tx++v'::(W.drop at_).map tx)) p7=some (.lst ((W.take at_).map tx++v'::(W.drop at_).map tx)):=upd_same
     generalize upd H6 p7 (.lst ((W.take at_).map tx++v'::(W.drop at_).map tx))=H7 at s7 l7
     have s26:=s25.trans s6
     have s06:=s1.trans (s2.trans s26)
     have fd:∀r∈(W.drop at_).map tx,flatV r=true:=fun r hr=>let ⟨_,_,e⟩:=List.mem_map.mp hr;e▸rfl
     refine hold_of ?_
     walk_at "rd"
     apply with_tailH (C:=fun H8=>Same H6 H8∧∃rest,H8 p7=some (.lst ((W.take at_).map tx++v'::rest))∧rest.length≤W.length-at_+1∧∀r∈rest,flatV r=true)
     ·intro tail
      refine⟨⟨by decide,by decide⟩,by decide,.inl ⟨rfl,_,rfl,ite2 (fun _=>?_) (fun _=>tail H7 ⟨s7,_,l7,by rw[ld1];omega,fd⟩)⟩⟩
      refine⟨.inl ⟨rfl,_,.mk l7⟩,p7,_,_,rfl,rfl,l7,?_,tail _ ⟨same_upd3' n7 s7,(W.drop at_).map tx++[.non],?_,?_,fun r hr=>?_⟩⟩
      ·rw[List.length_append,List.length_cons,ld1,sizeLine_eq];omega
      ·rw[upd_same,List.append_assoc];rfl
      ·rw[List.length_append,ld1];exact Nat.le_refl _
      ·rcases List.mem_append.mp hr with z | z
       ·exact fd r z
       ·rw[List.mem_singleton.mp z];rfl
     ·rintro H8 ⟨s8,rest,l8,lr,fr⟩
      have s28:=s26.trans s8
      refine hold_of ?_
      walk_at "rd"
      refine⟨p7,_,rfl,.inl (.mk l8),fun p9 n9=>?_⟩
      have s9:Same H8 (upd H8 p9 (.lst ((W.take at_).map tx++v'::rest))):=same_upd n9
      have l9:upd H8 p9 (.lst ((W.take at_).map tx++v'::rest)) p9=some (.lst ((W.take at_).map tx++v'::rest)):=upd_same
      generalize upd H8 p9 (.lst ((W.take at_).map tx++v'::rest))=H9 at s9 l9
      refine hold_of ?_
      walk_at "rd"
      have s29:=s28.trans s9
      have sp9:=sp.same s29
      refine⟨.ref p7,tx m,ak,rfl,.inr (.inr ⟨p7,W.take at_,v',rest,m,rfl,rfl,ok,s9 _ _ l8,gd1.take at_,by rw[List.length_take];omega,sp9,fun t H10 s10 h10=>⟨t,v',rfl,h10,(sp9.same s10).tame,true,rfl,iteT (.inr ⟨p7,p9,_,rfl,rfl,.mk ((s9.trans s10) _ _ l8),.mk (s10 _ _ l9),fun r hr=>?_,q H10 (s1.trans (s2.trans (s29.trans s10)))⟩)⟩⟩)⟩
      rcases List.mem_append.mp hr with z | z
      ·obtain⟨_,_,rfl⟩:=List.mem_map.mp z;exact .inl rfl
      ·rcases List.mem_cons.mp z with rfl | z
       ·exact sp9.tame.flat
       ·exact .inl (fr r z)
theorem sc_law:FnScope ["_law_script","_law_cell","_law_kinds_here","_law_words_here","_law_kept","_law_k","_law_one"] ["_law_script"] (defScope s_law):=⟨rfl,rfl,rfl,by decide +kernel,rfl,by decide +kernel,by decide +kernel⟩
theorem ok_law (T:Txt K mg a):FnOk P w K mg base CX0 8 a.f_law a.d_law ["_law_script"] (spLaw K):=by
 refine T.f_law.ok sc_law (fun vs H Q E h=>?_) (fun cdv A outer s H vs Q E hr h=>?_)
 ·obtain⟨_,_,rfl,_⟩:=h;rfl
 ·have hu64:=hr.units
  have hu1:=Nat.lt_of_le_of_lt (Nat.add_le_add_left (show 1≤64 by decide) _) hu64
  obtain⟨b,ns,rfl,hS,hl,q⟩:=h
  refine⟨_,(pss_cons (ps_set (i:=1) sc_law.nd rfl (Or.inl rfl) (pe_call (ok_lcell T) (hr.mono (by decide)) rfl T.m_lcell T.f_lcell.kp T.b_lcell .nil pass0 (pa_cons (pv 0) (pa_cons pe_int pa_nil))))
   (pss_hold (pss_cons (ps_set (i:=2) sc_law.nd rfl (Or.inl rfl) (pe_call (ok_lkinds T) (hr.mono (by decide)) rfl T.m_lkinds T.f_lkinds.kp T.b_lkinds .nil pass0 (pa_cons (pv 1) pa_nil)))
   (pss_hold (pss_cons (ps_set (i:=3) sc_law.nd rfl (Or.inl rfl) (pe_call (ok_lwords T) (hr.mono (by decide)) rfl T.m_lwords T.f_lwords.kp T.b_lwords .nil pass0 (pa_cons (pv 0) (pa_cons (pv 2) pa_nil))))
   (pss_hold (pss_cons (ps_if (pt_cmpR (op_eqDK (K:=K) rfl hu64) (pe_op op_mod (pe_call (ok_mixed T) (hr.mono (by decide)) rfl T.m_mixed T.f_mixed.kp T.b_mixed .nil pass0 (pa_cons (pv 1) (pa_cons pe_int pa_nil))) pe_int) pe_int (nomark _)) (pss_one (ps_set (i:=3) sc_law.nd rfl (Or.inl rfl) (pe_call (ok_many T) (hr.mono (by decide)) rfl T.m_many T.f_many.kp T.b_many .nil pass0 (pa_cons (pv 2) (pa_cons (pe_ix (ix_listK (K:=K) rfl) (pe_lst (pa_cons pe_int (pa_cons pe_int (pa_cons pe_int pa_nil)))) (pe_ix (ix_listK (K:=K) rfl) (pe_lst (pa_cons pe_int (pa_cons pe_int (pa_cons pe_int (pa_cons pe_int pa_nil))))) (pe_op op_sub (pe_callB (call_lenK (K:=K) rfl) rfl T.z_len bt_len (pa_cons (pv 2) pa_nil)) pe_int) (fun _ _=>rfl)) (fun _ _=>rfl)) pa_nil))))) pss_nil)
   (pss_hold (pss_cons (ps_set (i:=4) sc_law.nd rfl (Or.inl rfl) (pe_callTy (call_list_ofK (K:=K) rfl) rfl T.z_list bt_list (pa_cons (pv 3) pa_nil)))
   (pss_hold (pss_cons (ps_if (PW.pt (pw_or (pt_cmpR op_notN (pe_call (ok_need_list T) (hr.mono (by decide)) rfl T.m_need_list T.f_need_list.kp T.b_need_list .nil pass_no (pa_cons (pv 3) (pa_cons (pv 2) pa_nil))) pe_non (nomark _)) (pw_or (pt_cmpR op_notN (pe_call (ok_need_list T) (hr.mono (by decide)) rfl T.m_need_list T.f_need_list.kp T.b_need_list .nil pass_no (pa_cons (pe_lst pa_nil) (pa_cons (pv 2) pa_nil))) pe_non (nomark _)) (pw_or1 (pt_cmpR (op_neDK (K:=K) rfl hu64) (pv 3) (pv 4) (nomark _)))))) (pss_one (ps_ret pe_bl)) pss_nil)
   (pss_hold (pss_cons (ps_for PassesOwn.never rfl (pi_range1 rfl T.z_range (pa_cons (pe_callB (call_max2 rfl) rfl T.z_max bt_max (pa_cons pe_int (pa_cons (pe_callB (call_min2 rfl) rfl T.z_min bt_min (pa_cons (pe_callB (call_lenK (K:=K) rfl) rfl T.z_len bt_len (pa_cons (pv 0) pa_nil)) (pa_cons pe_int pa_nil))) pa_nil))) pa_nil)) (pg_name (i:=5) sc_law.nd rfl (Or.inl rfl))
   (pss_cons (ps_set (i:=6) sc_law.nd rfl (Or.inl rfl) (pe_call (ok_lcell T) (hr.mono (by decide)) rfl T.m_lcell T.f_lcell.kp T.b_lcell .nil pass0 (pa_cons (pv 0) (pa_cons (pv 5) pa_nil))))
   (pss_cons (ps_if (PW.pt (pw_or (pt_not (pt_val (pe_call (ok_avoided T) (hr.mono (by decide)) rfl T.m_avoided T.f_avoided.kp T.b_avoided .nil pass0 (pa_cons (pv 3) (pa_cons (pv 2) (pa_cons (pv 6) pa_nil)))))) (pw_or1 (pt_cmpR op_notB (pe_call (ok_avoids T) (hr.mono (by decide)) rfl T.m_avoids T.f_avoids.kp T.b_avoids .nil pass0 (pa_cons (pe_lst pa_nil) (pa_cons (pe_strT (l:=[]) (by decide +kernel)) pa_nil))) pe_bl (nomark _))))) (pss_one (ps_ret pe_bl)) pss_nil)
   (pss_one (ps_if (pt_not (pt_val (pe_call (ok_spoiled T) (hr.mono (by decide)) rfl T.m_spoiled T.f_spoiled.kp T.b_spoiled .nil pass0 (pa_cons (pv 3) (pa_cons (pv 2) (pa_cons (pe_call (ok_mixed T) (hr.mono (by decide)) rfl T.m_mixed T.f_mixed.kp T.b_mixed .nil pass0 (pa_cons (pv 6) (pa_cons (pe_op op_add pe_int (pv 5)) pa_nil))) (pa_cons (pe_call (ok_mixed T) (hr.mono (by decide)) rfl T.m_mixed T.f_mixed.kp T.b_mixed .nil pass0 (pa_cons (pv 6) (pa_cons (pe_op op_add pe_int (pv 5)) pa_nil))) pa_nil))))))) (pss_one (ps_ret pe_bl)) pss_nil)))))
   (pss_hold (pss_one (ps_ret (pe_cmpR (op_eqDK (K:=K) rfl hu64) (pv 3) (pv 4) (nomark _)))))))))))))))))),?_⟩
  have sz:∀k:Nat,k≤1000→k≤sizeLine:=fun k h=>Nat.le_trans h (by rw[sizeLine_eq];decide)
  walk_at "rd"
  refine⟨b,ns,0,rfl,hS,by decide,fun c=>hold_of ?_⟩
  walk_at "rd"
  refine⟨_,rfl,fun m mk m1 m4=>hold_of ?_⟩
  have ok:KOk m:=⟨mk,m1,m4⟩
  walk_at "rd"
  apply with_tailA (C:=fun pf H2=>Same H H2∧∃ws,H2 pf=some (.lst (ws.map tx))∧GoodL m ws∧ws.length≤200)
  ·intro tail
   refine⟨b,ns,m,rfl,hS,hl,ok,fun pf ws0 H1 s1 n1 l1 gd1 w1=>hold_of ?_⟩
   walk_at "rd"
   refine⟨_,_,rfl,fun r hr=>?_⟩
   walk_at "rd?"
   refine⟨by decide,.inl ⟨rfl,_,rfl,ite2 (fun _=>?_) (fun _=>tail pf H1 ⟨s1,ws0,l1,gd1,by omega⟩)⟩⟩
   obtain⟨j,n,hj,hn,n200,n39⟩:=pick4 m1 m4
   refine⟨sz _ (by decide),NewL.of fun p2 H2 s2 n2 l2=>⟨sz _ (by decide),NewL.of fun p3 H3 s3 n3 l3=>⟨_,_,rfl,lenTx (by omega),p3,_,_,_,rfl,rfl,.mk l3,hj,p2,_,_,_,rfl,rfl,.mk (s3 _ _ l2),hn,m,n,rfl,ok,by omega,n39,fun pg wg H4 s4 n4 l4 gd4 w4=>tail pg H4 ⟨s1.trans (s2.trans (s3.trans s4)),wg,l4,gd4,by omega⟩⟩⟩⟩
  ·rintro pf H2 ⟨s2,ws,l2,gd,lw⟩
   refine hold_of ?_
   walk_at "rd"
   refine⟨pf,_,rfl,.inl (.mk l2),fun pk nk=>?_⟩
   have s3:Same H2 (upd H2 pk (.lst (ws.map tx))):=same_upd nk
   have k3:upd H2 pk (.lst (ws.map tx)) pk=some (.lst (ws.map tx)):=upd_same
   generalize upd H2 pk (.lst (ws.map tx))=H3 at s3 k3
   have f3:=s3 _ _ l2
   refine hold_of ?_
   walk_at "rd"
   refine⟨_,_,rfl,.inl ⟨pf,ws,m,rfl,rfl,ok,f3,gd,lw,fun H4 s4=>?_⟩⟩
   walk_at "rd?"
   refine⟨trivial,ite2 (fun h=>absurd h (by decide)) (fun _=>⟨Nat.zero_le _,NewL.of fun p5 H5 s5 n5 l5=>⟨_,_,rfl,.inl ⟨p5,[],m,rfl,rfl,ok,l5,⟨List.nodup_nil,fun w hw=>by cases hw⟩,by decide,fun H6 s6=>?_⟩⟩⟩)⟩
   have s36:=s4.trans (s5.trans s6)
   refine⟨trivial,ite2 (fun h=>absurd h (by decide)) (fun _=>neL_tx (.mk (s36 _ _ f3)) (.mk (s36 _ _ k3)) ⟨false,rfl,iteF (hold_of ?_)⟩)⟩
   have f6:=s36 _ _ f3
   have k6:=s36 _ _ k3
   have s06:=s2.trans (s3.trans s36)
   walk_at "rd"
   refine⟨_,_,rfl,.inl ⟨_,s06.seq hS,rfl⟩,_,_,rfl,_,_,rfl,_,rfl,?_⟩
   rw[List.length_map]
   generalize hM:(if (if (40:Int)<(ns.length:Int) then (40:Int) else (ns.length:Int))>1 then (if (40:Int)<(ns.length:Int) then (40:Int) else (ns.length:Int)) else 1)=M
   have hM1:1≤M∧M≤64:=by
    rw[←hM]
    constructor<;>(repeat' split)<;>omega
   refine⟨by omega,by omega,ForRun.range (fun i σ H'=>∃v5 v6,σ=[some (.ref b),some (.int c),some (tx m),some (.ref pf),some (.ref pk),v5,v6]∧Same H6 H') ⟨_,_,rfl,Same.refl _⟩ ?_ ?_⟩
   ·rintro i σ H7 hi ⟨v5,v6,rfl,s7⟩
    walk_at "rd"
    refine⟨b,ns,_,rfl,(s06.trans s7).seq hS,by omega,fun c1=>?_⟩
    walk_at "rd?"
    refine⟨pf,ws,m,_,rfl,s7 _ _ f6,gd,lw,ok,fun H8 s8=>⟨_,rfl,iteF ⟨Nat.zero_le _,NewL.of fun p9 H9 s9 n9 l9=>⟨p9,[],[],rfl,l9,by decide,by decide,fun H10 s10=>⟨_,_,rfl,rfl,?_⟩⟩⟩⟩⟩
    have s70:=s7.trans (s8.trans (s9.trans s10))
    exact ite2 (fun h=>absurd h (by decide)) (fun _=>⟨_,_,rfl,fun r1 h1=>⟨_,_,rfl,fun r2 h2=>⟨pf,ws,m,r1,r2,rfl,s70 _ _ f6,gd,lw,ok,h1,h2,fun H11 s11=>⟨true,rfl,iteF ⟨_,_,rfl,s70.trans s11⟩⟩⟩⟩⟩)
   ·rintro σ H7 ⟨v5,v6,rfl,s7⟩
    walk_at "rd?"
    refine hold_of ?_
    walk_at "rd"
    refine eqL_tx (.mk (s7 _ _ f6)) (.mk (s7 _ _ k6)) ?_
    rw[decide_eq_true rfl]
    exact q H7
end
end Pk61
namespace PySem.W.Fast
def tw10017448063981157067:=0
def tw10018651366527442129:=0
def tw10026855944423920400:=0
def tw10042435186507506416:=0
def tw1010680329119701131:=0
def tw10113370149799647460:=0
def tw10121764673710318935:=0
def tw10127041735438192717:=0
def tw10138461144031902100:=0
def tw10153791712590575936:=0
def tw10194315373639135699:=0
def tw10216328475953741014:=0
def tw1021953127435211050:=0
def tw10283037448600663456:=0
def tw10361849948647180107:=0
def tw10416775058304497138:=0
def tw10444815376543876849:=0
def tw10485581290506222359:=0
def tw10550033927229474147:=0
def tw10569469212773357440:=0
def tw1067405895099568739:=0
def tw10677032148122898863:=0
def tw10725785875249539228:=0
def tw10733292531744833157:=0
def tw10741311823660837100:=0
def tw10820632748351411439:=0
def tw1084198178458347745:=0
def tw10845349434981436236:=0
def tw10861108844351782837:=0
def tw10899917361803550873:=0
def tw1093275071710405116:=0
def tw10960991108641089265:=0
def tw10990560390087527774:=0
def tw11050979224257159334:=0
def tw11065683949059996292:=0
def tw11089590097687996385:=0
def tw11092982774263722441:=0
def tw1109314960594461698:=0
def tw11105223476857844797:=0
def tw11154256097042723093:=0
def tw11306382928430939378:=0
def tw11374371781570487427:=0
def tw114132739668716116:=0
def tw1142859238427361679:=0
def tw11476430518115006021:=0
def tw11495371190916173439:=0
def tw11503084255392787923:=0
def tw1151956767173642647:=0
def tw11540387879617967831:=0
def tw11557695040225085956:=0
def tw11579969120110987624:=0
def tw11595523532474223956:=0
def tw11674880432185048991:=0
def tw11697624963740844366:=0
def tw11714524767597250071:=0
def tw11726546078709643315:=0
def tw11769034974735874228:=0
def tw11807643557934606158:=0
def tw12017224605589711164:=0
def tw12080344983857217202:=0
def tw12085856905167808523:=0
def tw1209523236797329826:=0
def tw12112879912108314127:=0
def tw12256029853828329391:=0
def tw12345599666526263272:=0
def tw12353092999424360582:=0
def tw12374517277807270561:=0
def tw12427834971713811616:=0
def tw12473350208121860242:=0
def tw12481783825464074498:=0
def tw12495824087728599438:=0
def tw12499552730772531726:=0
def tw12518923161056363264:=0
def tw12527233052109453077:=0
def tw12555585819212662397:=0
def tw12631976236835369436:=0
def tw12655978755424708396:=0
def tw12664643286558854762:=0
def tw12730745631279678400:=0
def tw127529060134515741:=0
def tw12788417731051066172:=0
def tw12790818913396280541:=0
def tw12824122627245457526:=0
def tw12832039048685271569:=0
def tw12850241255755394083:=0
def tw12891245201432428699:=0
def tw12927170372283830794:=0
def tw12935007071096484347:=0
def tw13045545218329020080:=0
def tw13045922674996038168:=0
def tw13062503379905087067:=0
def tw13081137786041218589:=0
def tw13114659075478387478:=0
def tw13185506120117544678:=0
def tw13208383329548775788:=0
def tw13215131579429872535:=0
def tw1321769806920352265:=0
def tw13220184462424773354:=0
def tw13301729218899229442:=0
def tw13313860059877295409:=0
def tw13341141521136656978:=0
def tw13349702597584047132:=0
def tw13453052764794501263:=0
def tw13462872240065474912:=0
def tw13467534159086515304:=0
def tw13472680352296953946:=0
def tw13516387624450698576:=0
def tw13540509595094879785:=0
def tw13547728453000071788:=0
def tw13585121038234105207:=0
def tw13616024373715765950:=0
def tw13645053916444044800:=0
def tw13651607716356593038:=0
def tw13662241200407459875:=0
def tw13667641132948582135:=0
def tw13683139638421337443:=0
def tw13734523191676529567:=0
def tw13758104764535809992:=0
def tw1376129115811716820:=0
def tw1376641164833640:=0
def tw13777676026304985885:=0
def tw13782212615475242348:=0
def tw13812890976808087835:=0
def tw13822889021571005543:=0
def tw13839168633436118322:=0
def tw13851291122400644927:=0
def tw13878993742996530687:=0
def tw13886102728932692839:=0
def tw1392447147583607132:=0
def tw13936042567463503205:=0
def tw13969283361313494618:=0
def tw14001185796614682240:=0
def tw14104301252451495481:=0
def tw14170064722727820421:=0
def tw14183333329690607121:=0
def tw1435893431252183009:=0
def tw14450851995569813580:=0
def tw14460678674968512113:=0
def tw14482979516881842243:=0
def tw14489205783966839400:=0
def tw14491534304451798353:=0
def tw1449770451785029228:=0
def tw14560337844953169709:=0
def tw14579641717696586806:=0
def tw14628135227506267975:=0
def tw1464379950706326173:=0
def tw14686034804482759338:=0
def tw14733476245061624083:=0
def tw14761063997070550451:=0
def tw14791668893729678868:=0
def tw14803226171527633712:=0
def tw14969057502027819749:=0
def tw14985287872037917590:=0
def tw14990878678933954585:=0
def tw15089394829806803351:=0
def tw15157201623613264785:=0
def tw15161733412064896184:=0
def tw15181519123888276584:=0
def tw15182713265124891770:=0
def tw1526623853286448923:=0
def tw15297701001285258991:=0
def tw15298418367766567976:=0
def tw15311549797586589468:=0
def tw15327163579862709376:=0
def tw15336890923756722353:=0
def tw15480259042155446637:=0
def tw15563382786008264694:=0
def tw15725014229985134621:=0
def tw15746957543767830055:=0
def tw15781555725618100936:=0
def tw15812976972774400135:=0
def tw15881867919343871185:=0
def tw15907235681717583884:=0
def tw15927208572600548811:=0
def tw15946759891895202210:=0
def tw16012795068186135590:=0
def tw16037828194743122239:=0
def tw16048822961009170267:=0
def tw16132244813523937870:=0
def tw16144596580278064669:=0
def tw16233397263694316640:=0
def tw16273288070035145561:=0
def tw16321398027647647913:=0
def tw16372231284919288528:=0
def tw16372733451369076961:=0
def tw16424837874335405354:=0
def tw1642708273842539769:=0
def tw16433120913559861496:=0
def tw16456730881213024750:=0
def tw16475237360972796376:=0
def tw16522595020382280935:=0
def tw16581908076412967347:=0
def tw16594815435072626761:=0
def tw16604688702324696526:=0
def tw16628823136503991515:=0
def tw16688010217252852949:=0
def tw16723772763880295478:=0
def tw16790526318085136385:=0
def tw16817502687257734027:=0
def tw16849587417778416657:=0
def tw1695553339615423422:=0
def tw17036616811848699834:=0
def tw17043211984977181891:=0
def tw17075292097341602079:=0
def tw17117408117355530285:=0
def tw17151283095436153431:=0
def tw17164840323585231754:=0
def tw17168448666219221162:=0
def tw17235296102087434008:=0
def tw1725643552714050438:=0
def tw17266917755026247964:=0
def tw17280591658976443436:=0
def tw17304531539209157829:=0
def tw17351352080098429981:=0
def tw17376282856717703689:=0
def tw17390963537910352294:=0
def tw17477457712065402617:=0
def tw1754025959990677355:=0
def tw17546579622024163996:=0
def tw17555037118177108035:=0
def tw17618854974018373580:=0
def tw17634773858220965497:=0
def tw17659117649701951961:=0
def tw17832304857383663849:=0
def tw17844675738813624259:=0
def tw17844953036650129469:=0
def tw17862668065885636814:=0
def tw17889911488580474455:=0
def tw17914046824877170376:=0
def tw1793279697280272208:=0
def tw17978106066220588798:=0
def tw18072458422587649718:=0
def tw18080631006187651758:=0
def tw18091357066337510578:=0
def tw18094530024888057148:=0
def tw1811062662345187015:=0
def tw18239136929094655723:=0
def tw18292865787805090564:=0
def tw18326229344602707762:=0
def tw18341143854828767166:=0
def tw18361244895089246639:=0
def tw18400217404725199665:=0
def tw18406087819697028376:=0
def tw1944385142204803432:=0
def tw1976653171472606069:=0
def tw1984051769349460260:=0
def tw1987821052082630708:=0
def tw2010476295352440028:=0
def tw2042978516210131417:=0
def tw2104087983014998769:=0
def tw211025691981101386:=0
def tw2219109303193786372:=0
def tw2228871607377045927:=0
def tw226727480968455225:=0
def tw2301048962867482245:=0
def tw2356787780942155433:=0
def tw2429997726717836020:=0
def tw2470393826842725501:=0
def tw2471954021767073525:=0
def tw2486026657260478454:=0
def tw2518643230753498397:=0
def tw2573612363955823176:=0
def tw2586991643015156707:=0
def tw2603252543804005174:=0
def tw2729663937838146140:=0
def tw2755728247283864602:=0
def tw2786050230320484614:=0
def tw2878762845039655190:=0
def tw2884916934915837617:=0
def tw2920921025750622748:=0
def tw2987370530095302141:=0
def tw2993674314001893714:=0
def tw3028869563160959273:=0
def tw305941051668040673:=0
def tw3062087976109056242:=0
def tw315202635281627324:=0
def tw3235771579591054642:=0
def tw324236312737573841:=0
def tw3294662409562151173:=0
def tw3356181558199835949:=0
def tw3389186672065702714:=0
def tw3432475583566245031:=0
def tw3529038131110710913:=0
def tw3559856599879830200:=0
def tw3565839174757743960:=0
def tw3600294224920339055:=0
def tw36174830624150957:=0
def tw3626847290776898306:=0
def tw3750731218255434130:=0
def tw3784346394371576017:=0
def tw387453006118259379:=0
def tw3887278754236915159:=0
def tw3897018081337720803:=0
def tw3944646766333631680:=0
def tw3991943676970519854:=0
def tw4038305688916372758:=0
def tw4056242325609722121:=0
def tw4082042228954403578:=0
def tw4154549138969881149:=0
def tw4250093281879286588:=0
def tw4253368865911942018:=0
def tw4260658750303213985:=0
def tw4266723445386935960:=0
def tw430248833278263788:=0
def tw4303243018232201870:=0
def tw4327799958890485826:=0
def tw4352557070836155609:=0
def tw436517921482500190:=0
def tw4417646866199361328:=0
def tw4419555100926114554:=0
def tw4420493986464848901:=0
def tw4433997706762764658:=0
def tw4511010942282040760:=0
def tw4521341168384947563:=0
def tw4529017540624000669:=0
def tw4537840363805903804:=0
def tw4542274591060448759:=0
def tw4545217124010292799:=0
def tw4546194522741256797:=0
def tw4610815880012712605:=0
def tw4639140142963750153:=0
def tw465576908603007139:=0
def tw4753849244084456711:=0
def tw4848874176139402185:=0
def tw4874497197576257592:=0
def tw4930379285073274912:=0
def tw495754956394182314:=0
def tw4965807535773685198:=0
def tw5045934762559076364:=0
def tw5076197371350767463:=0
def tw508612948185831057:=0
def tw513755347852083009:=0
def tw5168975074363523929:=0
def tw5184126071543960113:=0
def tw5228650434279492370:=0
def tw532139005058164607:=0
def tw5397907269163506074:=0
def tw5408866909227321825:=0
def tw5418344891411217944:=0
def tw5443630307947288414:=0
def tw544986185676678031:=0
def tw5515743644327569467:=0
def tw5525780150315020311:=0
def tw5603872226966979863:=0
def tw5664986486024273799:=0
def tw5717985258952485810:=0
def tw5790778182917671884:=0
def tw5806602507122175228:=0
def tw581033583393222743:=0
def tw583332904722623672:=0
def tw5915679657883483868:=0
def tw5931615971208319496:=0
def tw5932603358375392994:=0
def tw5953398184453773655:=0
def tw5970665804938646074:=0
def tw6002096191684955825:=0
def tw6020683780312099023:=0
def tw6065001036843685592:=0
def tw6086743523227937014:=0
def tw6174724233247483265:=0
def tw6212624241574391035:=0
def tw6244682735996590219:=0
def tw6251238719429195838:=0
def tw6280765415205631340:=0
def tw6315321862261720284:=0
def tw6322640744034988977:=0
def tw6442264358216331913:=0
def tw649372121728312186:=0
def tw6576872690526564567:=0
def tw6615460907821589344:=0
def tw6654568266890503469:=0
def tw6658352696504448852:=0
def tw6755911472899743650:=0
def tw6783755640107934092:=0
def tw681102223341307432:=0
def tw6845340519368474531:=0
def tw6895228491458272309:=0
def tw7078929425305930448:=0
def tw7116141751275865084:=0
def tw7158196638431258689:=0
def tw7299457932044875423:=0
def tw7332407926788628404:=0
def tw7339829822873977802:=0
def tw7402416221825664686:=0
def tw7412680905381471840:=0
def tw7438412102197246273:=0
def tw7566045172012724854:=0
def tw758579231831504216:=0
def tw7619572426597077645:=0
def tw7701955405505397284:=0
def tw7803826395272015472:=0
def tw7855028775133826727:=0
def tw7872904428888739810:=0
def tw7944857096999113022:=0
def tw7988334102555668740:=0
def tw8108868963331666720:=0
def tw8131291807119459609:=0
def tw8132714197954258380:=0
def tw8142644526461195093:=0
def tw8214630737318218040:=0
def tw8241740758631829155:=0
def tw8286878981312156114:=0
def tw8287611617218951906:=0
def tw8396521735715348848:=0
def tw8396974169201431628:=0
def tw8427080007161331563:=0
def tw8500832776270066577:=0
def tw8504335454295782830:=0
def tw8548855684597694309:=0
def tw860415614355999155:=0
def tw8608322996860204753:=0
def tw8649665924369904560:=0
def tw8652431419425299185:=0
def tw8659998999471967932:=0
def tw86843126104932702:=0
def tw8745597213134227366:=0
def tw8748933998838467792:=0
def tw8799608744540519178:=0
def tw8824618518118768730:=0
def tw8878384552443483357:=0
def tw8926443611810195664:=0
def tw8928311297511771512:=0
def tw8965996112488194473:=0
def tw9010611012225285149:=0
def tw9110017641934612158:=0
def tw9112770181579464241:=0
def tw9374626257129750781:=0
def tw9400208800642370528:=0
def tw9422179427305843668:=0
def tw9427382912241800419:=0
def tw9454560951732472129:=0
def tw9472698561711795134:=0
def tw9494933293553011709:=0
def tw9528561679471020490:=0
def tw9653021248036083652:=0
def tw9697486283714903047:=0
def tw9754338707911704404:=0
def tw9789860259146398142:=0
def tw9861759101993166744:=0
def tw9887334528613627060:=0
def tw9899619030999702051:=0
def tw9899882808351718918:=0
def tw9949157410960794759:=0
end PySem.W.Fast
open PySem PySem.W PyProof.Rows
set_option maxRecDepth 100000 in
set_option maxHeartbeats 0 in
theorem PySem.Challenge.cw_lackword_k61_lists_let_by_holds : PySem.Challenge.rw_lackword_k61_lists_let_by.Holds := by
 w_on;o_law;k_head;(case hw=>w_witness2)
 k_fill
 refine L2.walk_ofT (l:=PySem.Challenge.rw_lackword_k61_lists_let_by) (n:=63) (k:=8) (x:="_law_script") (CX:=L2.CX0) (sp:=fun K _=>Pk61.spLaw K) [] rfl (by decide) rfl ⟨rfl,by decide,by decide⟩ (fun w h Y=>PySem.W.km_in_of Y) (fun _=>by kernel_rfl) (by kernel_rfl) ?F ?S ?C
 case F=>
  intro w mg fa h tb KX G hmg hT
  have T:∃t,Pk61.Txt (L2.KOf KX) mg t:=by
   dsimp only[L2.KOf]
   refine' Pk61.txt_mk KX G ?oc_hn ?oc_tk ?a_LackError ?q_LackError ?r_LackError ?ty_LackError ?ga_LackError ?gr_LackError ?sa_LackError ?hd_LackError ?ob_LackError ?kp_LackError ?ha_LackError ?i_LackError ?rs_LackError ?rr_LackError ?rf_LackError ?a_NoList ?q_NoList ?r_NoList ?ty_NoList ?ga_NoList ?gr_NoList ?sa_NoList ?hd_NoList ?ob_NoList ?kp_NoList ?ha_NoList ?i_NoList ?fn_NoList ?l_INoList ?cc_INoList ?kk_INoList ?n_NoList_word ?a_NoKinds ?q_NoKinds ?r_NoKinds ?ty_NoKinds ?ga_NoKinds ?gr_NoKinds ?sa_NoKinds ?hd_NoKinds ?ob_NoKinds ?kp_NoKinds ?ha_NoKinds ?i_NoKinds ?nd ?a_has_only ?l_has_only ?cc_has_only ?kk_has_only ?a_is_kinds ?l_is_kinds ?cc_is_kinds ?kk_is_kinds ?a_is_word ?l_is_word ?cc_is_word ?kk_is_word ?a_need_kinds ?l_need_kinds ?cc_need_kinds ?kk_need_kinds ?a_need_list ?l_need_list ?cc_need_list ?kk_need_list ?a_avoids ?l_avoids ?cc_avoids ?kk_avoids ?a_strip_of ?l_strip_of ?cc_strip_of ?kk_strip_of ?a_lcell ?l_lcell ?cc_lcell ?kk_lcell ?a_mixed ?l_mixed ?cc_mixed ?kk_mixed ?a_lkinds ?l_lkinds ?cc_lkinds ?kk_lkinds ?a_drawn ?l_drawn ?cc_drawn ?kk_drawn ?a_lwords ?l_lwords ?cc_lwords ?kk_lwords ?a_many ?l_many ?cc_many ?kk_many ?a_thing ?l_thing ?cc_thing ?kk_thing ?a_told ?l_told ?cc_told ?kk_told ?a_alike ?l_alike ?cc_alike ?kk_alike ?a_spoiled ?l_spoiled ?cc_spoiled ?kk_spoiled ?a_avoided ?l_avoided ?cc_avoided ?kk_avoided ?a_law ?l_law ?cc_law ?kk_law ?z_len ?z_range ?z_enumerate ?z_isinstance ?z_all ?z_max ?z_min ?z_list ?z_tuple ?z_set ?z_sorted ?z_str ?z_bool ?z_dict ?z_any ?z_ValueError ?c_SMALL_LETTERS ?c_MOST_KINDS ?c_MOST_WORDS ?c_MOST_IN_LIST
   (case oc_hn=>k_is)
   (case oc_tk=>k_is)
   (case a_LackError=>k_is)
   (case q_LackError=>k_is)
   (case r_LackError=>rfl)
   (case ty_LackError=>k_is)
   (case ga_LackError=>k_is)
   (case gr_LackError=>k_is)
   (case sa_LackError=>k_is)
   (case hd_LackError=>k_is)
   (case ob_LackError=>k_is)
   (case kp_LackError=>k_is)
   (case ha_LackError=>k_is)
   (case i_LackError=>k_is)
   (case rs_LackError=>k_is)
   (case rr_LackError=>k_is)
   (case rf_LackError=>k_is)
   (case a_NoList=>k_is)
   (case q_NoList=>k_is)
   (case r_NoList=>rfl)
   (case ty_NoList=>k_is)
   (case ga_NoList=>k_is)
   (case gr_NoList=>k_is)
   (case sa_NoList=>k_is)
   (case hd_NoList=>k_is)
   (case ob_NoList=>k_is)
   (case kp_NoList=>k_is)
   (case ha_NoList=>k_is)
   (case i_NoList=>k_is)
   (case fn_NoList=>k_is)
   (case l_INoList=>k_is)
   (case cc_INoList=>k_is)
   (case kk_INoList=>k_is)
   (case n_NoList_word=>k_is)
   (case a_NoKinds=>k_is)
   (case q_NoKinds=>k_is)
   (case r_NoKinds=>rfl)
   (case ty_NoKinds=>k_is)
   (case ga_NoKinds=>k_is)
   (case gr_NoKinds=>k_is)
   (case sa_NoKinds=>k_is)
   (case hd_NoKinds=>k_is)
   (case ob_NoKinds=>k_is)
   (case kp_NoKinds=>k_is)
   (case ha_NoKinds=>k_is)
   (case i_NoKinds=>k_is)
   (case nd=>decide)
   (case a_has_only=>k_is)
   (case l_has_only=>k_is)
   (case cc_has_only=>k_is)
   (case kk_has_only=>k_is)
   (case a_is_kinds=>k_is)
   (case l_is_kinds=>k_is)
   (case cc_is_kinds=>k_is)
   (case kk_is_kinds=>k_is)
   (case a_is_word=>k_is)
   (case l_is_word=>k_is)
   (case cc_is_word=>k_is)
   (case kk_is_word=>k_is)
   (case a_need_kinds=>k_is)
   (case l_need_kinds=>k_is)
   (case cc_need_kinds=>k_is)
   (case kk_need_kinds=>k_is)
   (case a_need_list=>k_is)
   (case l_need_list=>k_is)
   (case cc_need_list=>k_is)
   (case kk_need_list=>k_is)
   (case a_avoids=>k_is)
   (case l_avoids=>k_is)
   (case cc_avoids=>k_is)
   (case kk_avoids=>k_is)
   (case a_strip_of=>k_is)
   (case l_strip_of=>k_is)
   (case cc_strip_of=>k_is)
   (case kk_strip_of=>k_is)
   (case a_lcell=>k_is)
   (case l_lcell=>k_is)
   (case cc_lcell=>k_is)
   (case kk_lcell=>k_is)
   (case a_mixed=>k_is)
   (case l_mixed=>k_is)
   (case cc_mixed=>k_is)
   (case kk_mixed=>k_is)
   (case a_lkinds=>k_is)
   (case l_lkinds=>k_is)
   (case cc_lkinds=>k_is)
   (case kk_lkinds=>k_is)
   (case a_drawn=>k_is)
   (case l_drawn=>k_is)
   (case cc_drawn=>k_is)
   (case kk_drawn=>k_is)
   (case a_lwords=>k_is)
   (case l_lwords=>k_is)
   (case cc_lwords=>k_is)
   (case kk_lwords=>k_is)
   (case a_many=>k_is)
   (case l_many=>k_is)
   (case cc_many=>k_is)
   (case kk_many=>k_is)
   (case a_thing=>k_is)
   (case l_thing=>k_is)
   (case cc_thing=>k_is)
   (case kk_thing=>k_is)
   (case a_told=>k_is)
   (case l_told=>k_is)
   (case cc_told=>k_is)
   (case kk_told=>k_is)
   (case a_alike=>k_is)
   (case l_alike=>k_is)
   (case cc_alike=>k_is)
   (case kk_alike=>k_is)
   (case a_spoiled=>k_is)
   (case l_spoiled=>k_is)
   (case cc_spoiled=>k_is)
   (case kk_spoiled=>k_is)
   (case a_avoided=>k_is)
   (case l_avoided=>k_is)
   (case cc_avoided=>k_is)
   (case kk_avoided=>k_is)
   (case a_law=>k_is)
   (case l_law=>k_is)
   (case cc_law=>k_is)
   (case kk_law=>k_is)
   (case z_len=>k_is)
   (case z_range=>k_is)
   (case z_enumerate=>k_is)
   (case z_isinstance=>k_is)
   (case z_all=>k_is)
   (case z_max=>k_is)
   (case z_min=>k_is)
   (case z_list=>k_is)
   (case z_tuple=>k_is)
   (case z_set=>k_is)
   (case z_sorted=>k_is)
   (case z_str=>k_is)
   (case z_bool=>k_is)
   (case z_dict=>k_is)
   (case z_any=>k_is)
   (case z_ValueError=>k_is)
   (case c_SMALL_LETTERS=>k_is)
   (case c_MOST_KINDS=>k_is)
   (case c_MOST_WORDS=>k_is)
   (case c_MOST_IN_LIST=>k_is)
  obtain⟨t,T⟩:=T
  have e0:=hmg.symm.trans T.m_law
  cases e0
  refine' ⟨_,?b,fun base kb nb hL=>Pk61.ok_law T⟩
  exact T.bl
 case S=>exact fun K tb H a ns hl hO hS=>⟨a,ns,rfl,hS,hl,fun _=>rfl⟩
 case C=>exact fun _ _ _ _ z=>z
#print axioms PySem.Challenge.cw_lackword_k61_lists_let_by_holds
