import PyProof.Rows.All
import Wide.All
import OpenK.AllK
import Wide.FinOn
import Lean
import PyProof.EqAt
import PyProof.EqKinds
import PyProof.TupleCall
import PyProof.SetRoads
import PyProof.Rows.SetFrom
import PyProof.StrWalks
import PyProof.FactsAll.set
import PyProof.FactsAll.subtypes_3
import PyProof.CollectWalk
import PyProof.CollectStr
import PyProof.StationsW
import PyProof.RulesAs
import KE.KTryMore
import PyProof.NsDelKeeps
import PyProof.ListStr
import PyProof.TupleOfStr
import PyProof.ConsumeS
import KE.KEqDict
import PyProof.DictWalks
import PyProof.DictUpdate
import PyProof.DictDisplay
import KE.KDictSum
import PyProof.DictItems
import PyProof.DictItemsLoops
import KE.KPairComp
import PySem.Challenge.RW_lackword_k15_machines_refused
set_option Elab.async false
set_option linter.all false
set_option maxRecDepth 100000
namespace L2
open PySem PySem.Spec PyProof.Rows
abbrev Key:=Sum Int Str
def keyIs:Key→Value→Bool
 | .inl k,v=>Value.isInt k v
 | .inr x,v=>Value.isStrOf x v
def keyH (w:World):Key→Int
 | .inl k=>hashInt k
 | .inr x=>hashStr w x
theorem keyIs_shape:∀ {k:Key} {v:Value},keyIs k v=true→(∃i t,k=Sum.inl i∧v=Value.int i t)∨(∃x t,k=Sum.inr x∧v=Value.str x t)
 | .inl i,v,h=>by
  obtain⟨t,e⟩:=Value.isInt_shape (k:=i) (v:=v) h
  exact .inl ⟨i,t,rfl,e⟩
 | .inr x,v,h=>by
  obtain⟨t,e⟩:=Value.isStrOf_shape (x:=x) (v:=v) h
  exact .inr ⟨x,t,rfl,e⟩
theorem keyIs_int (i:Int)(t:Tok):keyIs (.inl i) (.int i t)=true:=by simp[keyIs,Value.isInt]
theorem keyIs_str (x:Str)(t:Tok):keyIs (.inr x) (.str x t)=true:=by simp[keyIs,Value.isStrOf]
theorem key_ll (a b:Int):decide ((Sum.inl a:Key)=Sum.inl b)=(a == b):=by
 by_cases e:a=b
 ·subst e;simp
 ·have h:¬(Sum.inl a:Key)=Sum.inl b:=fun q=>e (Sum.inl.inj q)
  rw[decide_eq_false h]
  exact(beq_eq_false_iff_ne.mpr e).symm
theorem key_rr (a b:Str):decide ((Sum.inr a:Key)=Sum.inr b)=decide (a=b):=by
 by_cases e:a=b
 ·subst e;simp
 ·have h:¬(Sum.inr a:Key)=Sum.inr b:=fun q=>e (Sum.inr.inj q)
  rw[decide_eq_false h,decide_eq_false e]
theorem key_lr (a:Int)(b:Str):decide ((Sum.inl a:Key)=Sum.inr b)=false:=decide_eq_false (fun q=>nomatch q)
theorem key_rl (a:Str)(b:Int):decide ((Sum.inr a:Key)=Sum.inl b)=false:=decide_eq_false (fun q=>nomatch q)
def mixKind (prog:Program)(w:World):PySem.KeyKind prog w Key where
 is:=keyIs
 hash:=keyH w
 inj:=fun v a b ha hb=>by
  rcases keyIs_shape ha with⟨i,t,rfl,rfl⟩|⟨x,t,rfl,rfl⟩
  ·rcases keyIs_shape hb with⟨j,u,rfl,e⟩|⟨y,u,rfl,e⟩
   ·injection e with e1 _;rw[e1]
   ·exact nomatch e
  ·rcases keyIs_shape hb with⟨j,u,rfl,e⟩|⟨y,u,rfl,e⟩
   ·exact nomatch e
   ·injection e with e1 _;rw[e1]
 byValue:=fun k v h=>by
  rcases keyIs_shape h with⟨i,t,rfl,rfl⟩|⟨x,t,rfl,rfl⟩<;>rfl
 pyHash:=fun hv h=>by
  rcases keyIs_shape hv with⟨i,t,rfl,rfl⟩|⟨x,t,rfl,rfl⟩
  ·exact wpAny_pyHash_int h
  ·exact wpAny_pyHash_str h
 eqBool:=fun hu hv h=>by
  rcases keyIs_shape hu with⟨i,t,rfl,rfl⟩|⟨x,t,rfl,rfl⟩
  ·rcases keyIs_shape hv with⟨j,u,rfl,rfl⟩|⟨y,u,rfl,rfl⟩
   ·rw[key_ll]at h;exact wpAny_eqBool_int h
   ·rw[key_lr]at h;exact SeqAt.EqAt.int_str i t y u _ _ _ _ h
  ·rcases keyIs_shape hv with⟨j,u,rfl,rfl⟩|⟨y,u,rfl,rfl⟩
   ·rw[key_rl]at h;exact SeqAt.EqAt.str_int x t j u _ _ _ _ h
   ·rw[key_rr]at h;exact wpAny_eqBool_str h
 «strs»:=fun k x t v h=>by
  rcases keyIs_shape h with⟨i,u,rfl,e⟩|⟨y,u,rfl,e⟩
  ·exact nomatch e
  ·injection e with e1 _
   subst e1
   cases v<;>rfl
theorem mixKind_int (prog:Program)(w:World)(i:Int)(t:Tok):(mixKind prog w).is (.inl i) (.int i t)=true:=keyIs_int i t
theorem mixKind_str (prog:Program)(w:World)(x:Str)(t:Tok):(mixKind prog w).is (.inr x) (.str x t)=true:=keyIs_str x t
inductive V where
 | non | bl (b:Bool) | int (i:Int) | str (x:Str) | byt (b:Array UInt8) | flt (b:UInt64) | ref (a:Addr) | ty (n:String)
 deriving DecidableEq
def RelV:V→Value→Prop
 | .non,u=>u=Value.none
 | .bl b,u=>u=Value.bool b
 | .int i,u=>∃t,u=Value.int i t
 | .str x,u=>∃t,u=Value.str x t
 | .byt b,u=>∃t,u=Value.bytes b t
 | .flt b,u=>∃t,u=Value.float b t
 | .ref a,u=>u=Value.ref a
 | .ty n,u=>u=Value.type n
abbrev Vals:List V→List Value→Prop:=Paired RelV
theorem Vals.length {xs:List V}{us:List Value}(r:Vals xs us):xs.length=us.length:=Paired.length r
theorem Vals.get:∀ {xs:List V} {us:List Value} {i:Nat} {x:V},Vals xs us→xs[i]?=some x→∃u,us[i]?=some u∧RelV x u
 | _,_,_,_,.nil,e=>by simp at e
 | _,_,0,_,.cons r _,e=>by simp at e;subst e;exact⟨_,rfl,r⟩
 | _,_,i+1,x,.cons _ t,e=>by
  obtain⟨u,h1,h2⟩:=Vals.get (i:=i) (x:=x) t (by simpa using e)
  exact⟨u,by simpa using h1,h2⟩
theorem Vals.append:∀ {xs ys:List V} {us ws:List Value},Vals xs us→Vals ys ws→Vals (xs++ys) (us++ws)
 | _,_,_,_,.nil,s=>s
 | _,_,_,_,.cons r t,s=>.cons r (Vals.append t s)
theorem Vals.take:∀ {xs:List V} {us:List Value} (n:Nat),Vals xs us→Vals (xs.take n) (us.take n)
 | _,_,0,_=>.nil
 | _,_,_+1,.nil=>.nil
 | _,_,n+1,.cons r t=>.cons r (Vals.take n t)
theorem Vals.drop:∀ {xs:List V} {us:List Value} (n:Nat),Vals xs us→Vals (xs.drop n) (us.drop n)
 | _,_,0,r=>r
 | _,_,_+1,.nil=>.nil
 | _,_,n+1,.cons _ t=>Vals.drop n t
def RelO:Option V→Option Value→Prop
 | some v,some u=>RelV v u
 | none,none=>True
 | _,_=>False
def KV {κ:Type}:List (κ×V)→List (κ×Value)→Prop:=Paired fun (p:κ×V) (q:κ×Value)=>p.1=q.1∧RelV p.2 q.2
def kV:Key→V
 | .inl i=>.int i
 | .inr x=>.str x
inductive HO where
 | lst (xs:List V)
 | tup (xs:List V)
 | dK (kvs:List (Key×V)) | dT (kvs:List (List Key×V))
 | set (S:Int→Bool) (n:Nat)
 | ins (C dx:Addr) (fs:List (Str×V))
 | own (x:Addr)
 | xd (fs:List (Str×V))
 | met (f x:Addr)
 | rng (lo hi:Int)
 | frz (o:Obj) (u:HO)
 | tbl (ps:Array Value)
 | ext (φ:Heap→Prop)
abbrev Hp:=Addr→Option HO
def upd (H:Hp)(a:Addr)(o:HO):Hp:=fun b=>if b=a then some o else H b
theorem upd_same {H:Hp}{a:Addr}{o:HO}:upd H a o a=some o:=by unfold upd;rw[if_pos rfl]
theorem upd_ne {H:Hp}{a b:Addr}{o:HO}(h:b≠a):upd H a o b=H b:=by unfold upd;rw[if_neg h]
theorem ne_of {H:Hp}{a b:Addr}{o u:HO}(h:H a=some o)(h':H b=some u)(d:o≠u):a≠b:=by
 intro e;subst e;rw[h]at h';exact d (Option.some.inj h')
theorem ne_of_none {H:Hp}{a b:Addr}{o:HO}(h:H a=some o)(h':H b=none):a≠b:=by
 intro e;subst e;rw[h]at h';cases h'
section
variable (P:Program)(w:World)
def ObjOk (H:Hp)(h:Heap)(a:Addr):HO→Prop
 | .lst xs=>xs.length≤sizeLine∧∃(its:List Value) (n:Nat),Vals xs its∧h.get? a=some { cls:=.type "list",data:=.seq its.toArray n }
 | .tup xs=>xs.length≤sizeLine∧∃its:List Value,Vals xs its∧IsTup h a its.toArray
 | .dK kvs=>kvs.length≤sizeLine∧(a == sysModules)=false∧∃vs,KV kvs vs∧h.DictOf (mixKind P w) a vs
 | .dT kvs=>kvs.length≤sizeLine∧(a == sysModules)=false∧∃xs:List (List Key×Addr×Value),
   Paired (fun (p:List Key×V) (q:List Key×Addr×Value)=>p.1=q.1∧H q.2.1=some (.tup (p.1.map kV))∧RelV p.2 q.2.2) kvs xs ∧
   ∃o es ep,h.get? a=some o∧o.ExactDict∧o.data=.dict es ep∧es.toList=xs.map (entryOfKey (tupleKind (mixKind P w)))∧(xs.map (·.1)).Nodup
 | .set S n=>h.SetOf (intKind P w) a S n
 | .ins C dx fs=>H dx=some (.own a)∧fs.length≤1000∧dx≠a∧h.get? a=some (PySem.W.instObj C dx) ∧
   ∃mA,h.Ns1 dx mA∧(∀f,RelO (fs.lookup f) (mA f))∧PySem.Within mA (fs.map (·.1))
 | .own _=>∃o,h.get? a=some o
 | .xd fs=>∃mA,h.Ns1 a mA∧∀f,RelO (fs.lookup f) (mA f)
 | .rng lo hi=>∃t u v,h.get? a=some { cls:=.type "range",data:=.fields #[.int lo t,.int hi u,.int 1 v] }
 | .frz o u=>h.get? a=some o∧ObjOk H h a u
 | .tbl ps=>h.get? a=some { cls:=.none,data:=.fields ps }
 | .met f x=>h.get? a=some (PySem.W.methodObj (.ref f) (.ref x))
 | .ext φ=>φ h∧(∃o,h.get? a=some o)∧∀h1 h2:Heap,φ h1→(∀o,h1.get? a=some o→h2.get? a=some o)→φ h2
def HOk (H:Hp)(h:Heap):Prop:=∀a o,H a=some o→ObjOk P w H h a o
end
section
variable {P:Program}{w:World}{H H':Hp}{h h':Heap}{a:Addr}{o:HO}
theorem ObjOk.lt (x:ObjOk P w H h a o):a<h.objs.size:=by
 cases o with
 | lst xs=>obtain⟨_,_,_,_,e⟩:=x;exact Heap.lt_size e
 | tup xs=>obtain⟨_,_,_,p⟩:=x;exact p.lt
 | dK kvs=>obtain⟨_,_,_,_,o,_,_,e,_⟩:=x;exact Heap.lt_size e
 | dT kvs=>obtain⟨_,_,_,_,o,_,_,e,_⟩:=x;exact Heap.lt_size e
 | set S n=>obtain⟨o,_,_,_,e,_⟩:=x;exact Heap.lt_size e
 | ins C dx fs=>obtain⟨_,_,_,e,_⟩:=x;exact Heap.lt_size e
 | own y=>obtain⟨_,e⟩:=x;exact Heap.lt_size e
 | xd fs=>obtain⟨_,⟨_,_,_,e,_⟩,_⟩:=x;exact Heap.lt_size e
 | rng lo hi=>obtain⟨_,_,_,e⟩:=x;exact Heap.lt_size e
 | frz ob u=>obtain⟨e,_⟩:=x;exact Heap.lt_size e
 | tbl ps=>exact Heap.lt_size (show h.get? a=some _ from x)
 | met f y=>exact Heap.lt_size (show h.get? a=some _ from x)
 | ext φ=>obtain⟨_,⟨_,e⟩,_⟩:=x;exact Heap.lt_size e
theorem Paired.mapP {α β:Type}{F G:α→β→Prop}:∀ {l₁:List α} {l₂:List β},Paired F l₁ l₂→(∀a b,F a b→G a b)→Paired G l₁ l₂
 | _,_,.nil,_=>.nil
 | _,_,.cons r t,f=>.cons (f _ _ r) (Paired.mapP t f)
theorem ObjOk.stay (x:ObjOk P w H h a o)(k:∀b u,(b=a∨H b=some (.own a))→h.get? b=some u→h'.get? b=some u)
  (ho:∀b,H b=some (.own a)→H' b=some (.own a)) (ht:∀b xs,H b=some (.tup xs)→H' b=some (.tup xs)):ObjOk P w H' h' a o:=by
 induction o with
 | lst xs=>obtain⟨z,its,n,r,e⟩:=x;exact⟨z,its,n,r,k _ _ (.inl rfl) e⟩
 | tup xs=>obtain⟨z,its,r,ob,e,c⟩:=x;exact⟨z,its,r,ob,k _ _ (.inl rfl) e,c⟩
 | dK kvs=>obtain⟨z,y,vs,r,ob,es,ep,e,c⟩:=x;exact⟨z,y,vs,r,ob,es,ep,k _ _ (.inl rfl) e,c⟩
 | dT kvs=>
  obtain⟨z,y,xs,r,ob,es,ep,e,c⟩:=x
  exact⟨z,y,xs,Paired.mapP r fun p q z=>⟨z.1,ht _ _ z.2.1,z.2.2⟩,ob,es,ep,k _ _ (.inl rfl) e,c⟩
 | set S n=>obtain⟨ob,es,ep,t,e,c⟩:=x;exact⟨ob,es,ep,t,k _ _ (.inl rfl) e,c⟩
 | ins C dx fs=>
  obtain⟨d,z,ne,e,mA,⟨od,es,ep,e2,c⟩,r⟩:=x
  exact⟨ho _ d,z,ne,k _ _ (.inl rfl) e,mA,⟨od,es,ep,k _ _ (.inr d) e2,c⟩,r⟩
 | own y=>obtain⟨ob,e⟩:=x;exact⟨ob,k _ _ (.inl rfl) e⟩
 | xd fs=>obtain⟨mA,⟨od,es,ep,e,c⟩,r⟩:=x;exact⟨mA,⟨od,es,ep,k _ _ (.inl rfl) e,c⟩,r⟩
 | rng lo hi=>obtain⟨t,u,v,e⟩:=x;exact⟨t,u,v,k _ _ (.inl rfl) e⟩
 | frz ob u ih=>obtain⟨e,q⟩:=x;exact⟨k _ _ (.inl rfl) e,ih q⟩
 | tbl ps=>
  have e:h.get? a=some { cls:=.none,data:=.fields ps }:=x
  show h'.get? a=some { cls:=.none,data:=.fields ps }
  exact k a _ (.inl rfl) e
 | met f y=>
  have e:h.get? a=some (PySem.W.methodObj (.ref f) (.ref y)):=x
  show h'.get? a=some (PySem.W.methodObj (.ref f) (.ref y))
  exact k a _ (.inl rfl) e
 | ext φ=>obtain⟨p,⟨o,e⟩,st⟩:=x;exact⟨st _ _ p fun o q=>k _ _ (.inl rfl) q,⟨o,k _ _ (.inl rfl) e⟩,st⟩
theorem HOk.lt (x:HOk P w H h)(e:H a=some o):a<h.objs.size:=(x a o e).lt
theorem HOk.fresh (x:HOk P w H h)(e:h.objs.size≤a):H a=none:=by
 cases q:H a with
 | none=>rfl
 | some u=>exact absurd (Nat.lt_of_lt_of_le (x.lt q) e) (Nat.lt_irrefl _)
theorem HOk.kept (x:HOk P w H h)(k:∀b u,h.get? b=some u→h'.get? b=some u):HOk P w H h':=fun a o e=>
 (x a o e).stay (fun b u _ q=>k b u q) (fun _ q=>q) fun _ _ q=>q
theorem HOk.laid (x:HOk P w H h)(k:∀b u,h.get? b=some u→h'.get? b=some u)(hp:h.objs.size≤a)(new:ObjOk P w (upd H a o) h' a o):HOk P w (upd H a o) h':=fun b u e=>by
 have hn:=x.fresh hp
 by_cases hb:b=a
 ·subst hb;rw[upd_same]at e;cases e;exact new
 ·rw[upd_ne hb]at e
  exact(x b u e).stay (fun c v _ q=>k c v q) (fun c q=>by rw[upd_ne (ne_of_none q hn)];exact q) fun c xs q=>by rw[upd_ne (ne_of_none q hn)];exact q
end
def Rd (H:Hp)(a:Addr)(u:HO):Prop:=H a=some u∨∃o,H a=some (.frz o u)
theorem Rd.ok {P:Program}{w:World}{H:Hp}{h:Heap}{a:Addr}{u:HO}(r:Rd H a u)(x:HOk P w H h):ObjOk P w H h a u:=by
 rcases r with r | ⟨o,r⟩
 ·exact x a u r
 ·obtain⟨_,q⟩:=x a _ r
  exact q
def Mut:Option HO→Prop
 | some (.lst _)=>True
 | some (.dK _)=>True
 | some (.dT _)=>True
 | some (.set _ _)=>True
 | some (.ins _ _ _)=>True
 | some (.ext _)=>True
 | _=>False
section
variable {P:Program}{w:World}{H:Hp}{h h':Heap}{x e:Addr}{o':HO}
theorem HOk.write (ok:HOk P w H h)(mu:Mut (H x))(he:e=x∨H e=some (.own x))(k:∀b u,b≠e→h.get? b=some u→h'.get? b=some u)(heo:∃u,h'.get? e=some u)
  (new:ObjOk P w (upd H x o') h' x o'):HOk P w (upd H x o') h':=fun b u q=>by
 have nown:∀c y,H c=some (.own y)→c≠x:=fun c y r z=>by subst z;rw[r]at mu;exact mu
 have ntup:∀c xs,H c=some (.tup xs)→c≠x:=fun c xs r z=>by subst z;rw[r]at mu;exact mu
 by_cases hb:b=x
 ·subst hb;rw[upd_same]at q;cases q;exact new
 ·rw[upd_ne hb]at q
  by_cases hbe:b=e
  ·have q':H b=some (.own x):=by
    rcases he with z | z
    ·exact absurd (hbe.trans z) hb
    ·rw[hbe];exact z
   rw[q]at q';cases q'
   obtain⟨v,hv⟩:=heo
   exact⟨v,by rw[hbe];exact hv⟩
  ·refine(ok b u q).stay (fun c v hc r=>k c v ?_ r) (fun c r=>by rw[upd_ne (nown c b r)];exact r) fun c xs r=>by rw[upd_ne (ntup c xs r)];exact r
   rcases hc with rfl | hc
   ·exact hbe
   ·rintro rfl
    rcases he with z | z
    ·exact nown c b hc z
    ·rw[hc]at z;cases z;exact hb rfl
end
structure Un (fs ex:List Addr)(H H':Hp)(h h':Heap):Prop where
 keep:∀b o,h.get? b=some o→H b=none→b∉fs→b∉ex→h'.get? b=some o
 slot:∀b o,h.get? b=some o→H b=none→b∈fs→b∉ex→∃sl,h'.get? b=some { o with slots:=sl }
 free:∀b o,h.get? b=some o→H b=none→b∉ex→H' b=none
 there:∀b o,h.get? b=some o→b∉ex→∃o',h'.get? b=some o'
 tups:∀b xs,H b=some (.tup xs)→H' b=some (.tup xs)
 frzs:∀b o u,H b=some (.frz o u)→H' b=some (.frz o u)
 tbls:∀b ps,H b=some (.tbl ps)→∃more,H' b=some (.tbl (ps++more))
section
variable {fs fs' ex ex':List Addr}{H H1 H2:Hp}{h h1 h2 h':Heap}{a x e:Addr}{o:HO}
theorem Un.any (u:Un fs ex H H1 h h1){b:Addr}{ob:Obj}(q:h.get? b=some ob)(n:H b=none)(hx:b∉ex):∃sl,h1.get? b=some { ob with slots:=sl }:=by
 by_cases hb:b∈fs
 ·exact u.slot b ob q n hb hx
 ·exact⟨ob.slots,u.keep b ob q n hb hx⟩
theorem Un.trans (a:Un fs ex H H1 h h1)(b:Un fs ex H1 H2 h1 h2):Un fs ex H H2 h h2 where
 keep:=fun c ob q n hc hx=>b.keep c ob (a.keep c ob q n hc hx) (a.free c ob q n hx) hc hx
 slot:=fun c ob q n hc hx=>by
  obtain⟨sl,e1⟩:=a.slot c ob q n hc hx
  obtain⟨sl',e2⟩:=b.slot c _ e1 (a.free c ob q n hx) hc hx
  exact⟨sl',e2⟩
 free:=fun c ob q n hx=>by
  obtain⟨o',e1⟩:=a.there c ob q hx
  exact b.free c o' e1 (a.free c ob q n hx) hx
 there:=fun c ob q hx=>by
  obtain⟨o',e1⟩:=a.there c ob q hx
  exact b.there c o' e1 hx
 tups:=fun c xs q=>b.tups c xs (a.tups c xs q)
 frzs:=fun c ob xs q=>b.frzs c ob xs (a.frzs c ob xs q)
 tbls:=fun c ps q=>by
  obtain⟨m1,e1⟩:=a.tbls c ps q
  obtain⟨m2,e2⟩:=b.tbls c _ e1
  exact⟨m1++m2,by rw[e2,Array.append_assoc]⟩
theorem Un.kept (k:∀b u,h.get? b=some u→h'.get? b=some u):Un fs ex H H h h':=
 ⟨fun b ob q _ _ _=>k b ob q,fun b ob q _ _ _=>⟨ob.slots,k b ob q⟩,fun _ _ _ n _=>n,fun b ob q _=>⟨ob,k b ob q⟩,fun _ _ q=>q,fun _ _ _ q=>q,fun _ ps q=>⟨#[],by rw[q];simp⟩⟩
theorem Un.refl:Un fs ex H H h h:=Un.kept fun _ _ q=>q
theorem Un.laid (k:∀b u,h.get? b=some u→h'.get? b=some u)(hp:h.objs.size≤a)(hn:H a=none):Un fs ex H (upd H a o) h h' where
 keep:=fun b u q _ _ _=>k b u q
 slot:=fun b u q _ _ _=>⟨u.slots,k b u q⟩
 free:=fun b u q n _=>by rw[upd_ne (Nat.ne_of_lt (Nat.lt_of_lt_of_le (Heap.lt_size q) hp))];exact n
 there:=fun b u q _=>⟨u,k b u q⟩
 tups:=fun b xs q=>by rw[upd_ne (ne_of_none q hn)];exact q
 frzs:=fun b u xs q=>by rw[upd_ne (ne_of_none q hn)];exact q
 tbls:=fun b ps q=>⟨#[],by rw[upd_ne (ne_of_none q hn),q];simp⟩
theorem Un.write (mu:Mut (H x))(he:e=x∨H e=some (.own x))(k:∀b u,b≠e→h.get? b=some u→h'.get? b=some u)(heo:∃u,h'.get? e=some u):Un fs ex H (upd H x o) h h':=by
 have hx:∀b,H b=none→b≠x:=fun b n z=>by subst z;rw[n]at mu;exact mu
 have hb:∀b,H b=none→b≠e:=fun b n z=>by
  subst z
  rcases he with r | r
  ·exact hx b n r
  ·rw[n]at r;cases r
 have hm:∀b u,H b=some u→¬Mut (some u)→b≠x:=fun b u q nm z=>by subst z;rw[q]at mu;exact nm mu
 refine⟨fun b u q n _ _=>k b u (hb b n) q,fun b u q n _ _=>⟨u.slots,k b u (hb b n) q⟩,fun b u q n _=>by rw[upd_ne (hx b n)];exact n,fun b u q _=>?_,
  fun b xs q=>by rw[upd_ne (hm b _ q fun z=>z)];exact q,fun b u xs q=>by rw[upd_ne (hm b _ q fun z=>z)];exact q,fun b ps q=>⟨#[],by rw[upd_ne (hm b _ q fun z=>z),q];simp⟩⟩
 by_cases hbe:b=e
 ·subst hbe;exact heo
 ·exact⟨u,k b u hbe q⟩
end
def trk (h:Heap)(H:Hp):List Addr:=(List.range h.objs.size).filter fun a=>(H a).isSome
def hidT (h:Heap)(H:Hp):Heap:=PySem.W.hideAll h (trk h H)
theorem hidT_size (h:Heap)(H:Hp):(hidT h H).objs.size=h.objs.size:=PySem.W.hideAll_size _ _
theorem hidT_get {h:Heap}{H:Hp}{b:Addr}{o:Obj}(e:h.get? b=some o)(n:H b=none):(hidT h H).get? b=some o:=
 PySem.W.hideAll_get _ e fun hm=>by
  have q:(H b).isSome=true:=(List.mem_filter.mp hm).2
  rw[n]at q;simp at q
theorem of_hidT {h:Heap}{H:Hp}{b:Addr}{o:Obj}(e:(hidT h H).get? b=some o):h.get? b=some o∧H b=none:=by
 have e':h.get? b=some o:=PySem.W.of_hideAll (trk h H) e
 refine⟨e',?_⟩
 cases q:H b with
 | none=>rfl
 | some x=>
  have hm:b∈trk h H:=List.mem_filter.mpr ⟨List.mem_range.mpr (Heap.lt_size e'),by simp[q]⟩
  have z:(hidT h H).get? b=none:=PySem.W.hideAll_none (trk h H) hm
  rw[z]at e;cases e
def allNews (g h:Heap)(L:Addr):List (Addr×Obj):=(List.range h.objs.size).filterMap fun a=>if a=L∨(g.get? a).isSome=true then none else (h.get? a).map fun o=>(a,o)
def rest (g h:Heap)(L d:Addr):List (Addr×Obj):=(allNews g h L).filter fun p=>decide (p.1≠d)
structure Mod (K:PySem.W.Frag)(mg:Str→Option Value)(base:Heap):Prop where
 kin:K.In base
 glob:base.Ns mainGlobals mg
 blt:∃mb,base.Ns builtinsNs mb∧∀x:Str,x≠"__name__"→mb x=bootBuiltins x
 nolimit:base.NoLimit
structure Cx where
 prog:Program
 w:World
 K:PySem.W.Frag
 mg:Str→Option Value
 base:Heap
 A:Around
 N:List Str
 s₀:Shared
 H₀:Hp
 env:Env
 outer:List Env
 stack:List Env
 ex:List Addr
 fn:Str→Bool
 calm:Bool
 pn:List (Addr×Obj)
 xe:Value→Shared→Prop
def frs (l:List Env):List Addr:=l.filterMap (·.frame)
abbrev Cx.fs (X:Cx):List Addr:=frs X.outer
def Vis (sc:Scope)(x:Str):Prop:=sc.names.lookup x=some .local∨sc.names.lookup x=some .cell∨sc.names.lookup x=some .free
def Loc (sc:Scope)(x:Str):Prop:=sc.names.lookup x=some .local∨sc.names.lookup x=some .cell
def Look (env:Env)(h:Heap)(m:Str→Option Value)(x:Str)(u:Value):Prop:=
 (env.kindOf x=some .local∧m x=some u)∨((env.kindOf x=some .cell∨env.kindOf x=some .free)∧∃c,env.cells.lookup x=some c∧h.IsCell c (some u))
structure Cx.Ok (X:Cx):Prop where
 mod:Mod X.K X.mg X.base
 kind:X.env.scope.kind=.function
 glob:X.env.globals=mainGlobals
 blt:X.env.builtins=builtinsNs
 above:X.s₀.heap.objs.size≤X.env.locals
 inj:∀x y c,X.env.cells.lookup x=some c→X.env.cells.lookup y=some c→x=y
 has:∀x,(X.env.kindOf x=some .cell∨X.env.kindOf x=some .free)→∃c,X.env.cells.lookup x=some c
 cab:∀x c,X.fn x=true→X.env.cells.lookup x=some c→X.s₀.heap.objs.size≤c
 hd:X.calm=true→X.A.handled=none
 frames:X.A.frames=some X.stack
 stk:X.stack=X.outer∨(X.stack=X.env::X.outer∧X.env.frame=some X.env.locals)
 exf:∀b∈X.ex,b≠X.env.locals∧∀x c,X.env.cells.lookup x=some c→c≠b
 bs:∀b o,X.base.get? b=some o→X.s₀.heap.get? b=some o∧X.H₀ b=none
 bsz:X.base.objs.size≤X.s₀.heap.objs.size
 noex:∀b o,X.base.get? b=some o→b∉X.ex
 exfs:∀b∈X.ex,b∉X.fs
 funs:X.s₀.heap.FunFrames X.base X.outer
 frf:∀b∈X.fs,X.H₀ b=none
structure Inv (X:Cx)(pins:List (Addr×Obj))(σ:List (Option V))(H:Hp)(s:Shared):Prop where
 ok:X.Ok
 os:s.os=X.s₀.os
 bare:AllBare s.gens
 base:Un X.fs X.ex X.H₀ H X.s₀.heap s.heap
 loc:∃m,s.heap.Ns X.env.locals m∧∀(i:Nat) (x:Str) (v:V),X.N[i]?=some x→σ[i]?=some (some v)→Vis X.env.scope x→∃u,RelV v u∧Look X.env s.heap m x u
 cell:∀x c,X.env.cells.lookup x=some c→∃v,s.heap.IsCell c v
 free:H X.env.locals=none
 freeC:∀x c,X.env.cells.lookup x=some c→H c=none
 pin:∀p∈X.pn++pins,s.heap.get? p.1=some p.2∧H p.1=none∧p.1≠X.env.locals∧p.1∉X.fs∧∀v,p.2.data≠.cell v
 hok:HOk X.prog X.w H s.heap
 len:σ.length=X.N.length
section
variable {X:Cx}{pins:List (Addr×Obj)}{σ:List (Option V)}{H H':Hp}{s:Shared}{h':Heap}
theorem Cx.Ok.nofr (ok:X.Ok){b:Addr}{o:Obj}(e:X.base.get? b=some o):b∉X.fs:=fun hb=>by
 have:=(ok.funs.mem hb).1
 rw[e]at this;cases this
theorem Inv.bs (I:Inv X pins σ H s):∀b o,X.base.get? b=some o→s.heap.get? b=some o∧H b=none:=fun b o e=>
 ⟨I.base.keep b o (I.ok.bs b o e).1 (I.ok.bs b o e).2 (I.ok.nofr e) (I.ok.noex b o e),I.base.free b o (I.ok.bs b o e).1 (I.ok.bs b o e).2 (I.ok.noex b o e)⟩
theorem Inv.bk (I:Inv X pins σ H s):∀b o,X.base.get? b=some o→s.heap.get? b=some o:=fun b o e=>(I.bs b o e).1
theorem Inv.mod (I:Inv X pins σ H s):Mod X.K X.mg X.base:=I.ok.mod
theorem Inv.kIn (I:Inv X pins σ H s):X.K.In s.heap:=I.ok.mod.kin.keeps I.bk
theorem Inv.lt (I:Inv X pins σ H s):X.env.locals<s.heap.objs.size:=let ⟨_,hn,_⟩:=I.loc;hn.lt
theorem Inv.sz (I:Inv X pins σ H s):X.s₀.heap.objs.size≤s.heap.objs.size:=Nat.le_trans I.ok.above (Nat.le_of_lt I.lt)
theorem Inv.nofs (I:Inv X pins σ H s){a:Addr}(h:s.heap.objs.size≤a):a∉X.fs:=fun hb=>by
 obtain⟨_,o,ho,_⟩:=I.ok.funs.mem hb
 exact absurd (Nat.lt_of_lt_of_le (Heap.lt_size ho) (Nat.le_trans I.sz h)) (Nat.lt_irrefl _)
theorem Inv.cne (I:Inv X pins σ H s):∀x c,X.env.cells.lookup x=some c→c≠X.env.locals:=fun x c e z=>by
 obtain⟨v,o,ho,hd⟩:=I.cell x c e
 obtain⟨m,⟨o',es,ep,ho',hd',_⟩,_⟩:=I.loc
 rw[z,ho']at ho;cases ho;rw[hd']at hd;cases hd
theorem Inv.funs (I:Inv X pins σ H s):s.heap.FunFrames X.base X.outer:=by
 have all:∀(l:List Env),(∀b∈frs l,b∈X.fs)→X.s₀.heap.FunFrames X.base l→s.heap.FunFrames X.base l:=by
  intro l
  induction l with
  | nil=>intro _ _;trivial
  | cons env r ih=>
   intro hs hl
   obtain⟨hk,⟨L,o,hf,hn,ho,hd⟩,hr⟩:=hl
   have hL:L∈X.fs:=hs L (by unfold frs;rw[List.filterMap_cons,hf];exact List.mem_cons_self)
   obtain⟨sl,e⟩:=I.base.slot L o ho (I.ok.frf L hL) hL fun z=>I.ok.exfs L z hL
   exact⟨hk,⟨L,_,hf,hn,e,hd⟩,ih (fun b hb=>hs b (by unfold frs;rw[List.filterMap_cons,hf];exact List.mem_cons_of_mem _ hb)) hr⟩
 exact all X.outer (fun _ hb=>hb) I.ok.funs
theorem Inv.stack (I:Inv X pins σ H s):s.heap.FunFrames X.base X.stack:=by
 rcases I.ok.stk with e | ⟨e,hf⟩
 ·rw[e];exact I.funs
 ·rw[e]
  obtain⟨m,hn,_⟩:=I.loc
  refine .cons (by rw[I.ok.kind];decide) hf hn ?_ I.funs
  exact Heap.get?_none_of_le (Nat.le_trans I.ok.bsz I.ok.above)
theorem Inv.stkSub (I:Inv X pins σ H s):∀b∈frs X.stack,b∈X.env.locals::X.fs:=fun b hb=>by
 rcases I.ok.stk with e | ⟨e,hf⟩
 ·rw[e]at hb;exact List.mem_cons_of_mem _ hb
 ·rw[e]at hb
  unfold frs at hb
  rw[List.filterMap_cons,hf]at hb
  exact hb
theorem Inv.stkFree (I:Inv X pins σ H s):∀b∈frs X.stack,H b=none:=fun b hb=>by
 rcases List.mem_cons.mp (I.stkSub b hb) with e | hb
 ·rw[e];exact I.free
 ·obtain⟨_,o,ho,_⟩:=I.ok.funs.mem hb
  exact I.base.free b o ho (I.ok.frf b hb) fun z=>I.ok.exfs b z hb
theorem Inv.step {g':Array GenState}{t':Nat}{d':Drawn}{ch:List Addr}(I:Inv X pins σ H s)
  (hch:∀b∈ch,(b∈X.ex∨X.s₀.heap.objs.size≤b)∧b≠X.env.locals∧(∀x c,X.env.cells.lookup x=some c→c≠b)∧∀p∈X.pn++pins,p.1≠b)
  (keep:∀b o,b≠X.env.locals→b∉X.fs→b∉ch→s.heap.get? b=some o→H b=none→h'.get? b=some o)
  (slot:∀b o,b≠X.env.locals→b∈X.fs→b∉ch→s.heap.get? b=some o→H b=none→∃sl,h'.get? b=some { o with slots:=sl }) (free:∀b o,b∉ch→s.heap.get? b=some o→H b=none→H' b=none)
  (there:∀b o,b∉ch→s.heap.get? b=some o→∃o',h'.get? b=some o')
  (tups:∀b xs,H b=some (.tup xs)→H' b=some (.tup xs)) (frzs:∀b o u,H b=some (.frz o u)→H' b=some (.frz o u)) (tbls:∀b ps,H b=some (.tbl ps)→∃more,H' b=some (.tbl (ps++more)))
  (ns:∀m,s.heap.Ns X.env.locals m→h'.Ns X.env.locals m) (hok:HOk X.prog X.w H' h') (hg:AllBare g'):
  Inv X pins σ H' { s with heap:=h',gens:=g',drawn:=d',toks:=t' }:=by
 have neL:∀b o,X.s₀.heap.get? b=some o→b≠X.env.locals:=fun b o e=>Nat.ne_of_lt (Nat.lt_of_lt_of_le (Heap.lt_size e) I.ok.above)
 have neC:∀b o,X.s₀.heap.get? b=some o→b∉X.ex→b∉ch:=fun b o e hx hb=>by
  rcases (hch b hb).1 with z | z
  ·exact hx z
  ·exact absurd (Nat.lt_of_lt_of_le (Heap.lt_size e) z) (Nat.lt_irrefl _)
 have cellK:∀x c,X.env.cells.lookup x=some c→∀v,s.heap.IsCell c v→h'.IsCell c v:=fun x c e v ⟨o,ho,hd⟩=>by
  have nch:c∉ch:=fun z=>(hch c z).2.2.1 x c e rfl
  by_cases hc:c∈X.fs
  ·obtain⟨sl,q⟩:=slot c o (I.cne x c e) hc nch ho (I.freeC x c e)
   exact⟨_,q,hd⟩
  ·exact⟨o,keep c o (I.cne x c e) hc nch ho (I.freeC x c e),hd⟩
 refine⟨I.ok,I.os,hg,⟨fun b o e n hb hx=>?_,fun b o e n hb hx=>?_,fun b o e n hx=>?_,fun b o e hx=>?_,fun b xs e=>tups b xs (I.base.tups b xs e),fun b o xs e=>frzs b o xs (I.base.frzs b o xs e),fun b ps e=>?_⟩,?_,fun x c e=>?_,?_,fun x c e=>?_,fun p hp=>?_,hok,I.len⟩
 ·exact keep b o (neL b o e) hb (neC b o e hx) (I.base.keep b o e n hb hx) (I.base.free b o e n hx)
 ·obtain⟨sl,e1⟩:=I.base.slot b o e n hb hx
  obtain⟨sl',e2⟩:=slot b _ (neL b o e) hb (neC b o e hx) e1 (I.base.free b o e n hx)
  exact⟨sl',e2⟩
 ·obtain⟨o',e1⟩:=I.base.there b o e hx
  exact free b o' (neC b o e hx) e1 (I.base.free b o e n hx)
 ·obtain⟨o',e1⟩:=I.base.there b o e hx
  exact there b o' (neC b o e hx) e1
 ·obtain⟨m1,e1⟩:=I.base.tbls b ps e
  obtain⟨m2,e2⟩:=tbls b _ e1
  exact⟨m1++m2,by rw[e2,Array.append_assoc]⟩
 ·obtain⟨m,hn,hl⟩:=I.loc
  refine⟨m,ns m hn,fun i x v e1 e2 e3=>?_⟩
  obtain⟨u,r,l⟩:=hl i x v e1 e2 e3
  refine⟨u,r,?_⟩
  rcases l with l | ⟨k,c,e,z⟩
  ·exact .inl l
  ·exact .inr ⟨k,c,e,cellK x c e _ z⟩
 ·obtain⟨v,z⟩:=I.cell x c e
  exact⟨v,cellK x c e v z⟩
 ·obtain⟨m,⟨o,_,_,ho,_⟩,_⟩:=I.loc
  exact free _ o (fun z=>(hch _ z).2.1 rfl) ho I.free
 ·obtain⟨v,o,ho,hd⟩:=I.cell x c e
  exact free c o (fun z=>(hch c z).2.2.1 x c e rfl) ho (I.freeC x c e)
 ·obtain⟨e,n,ne,nf,d⟩:=I.pin p hp
  have nch:p.1∉ch:=fun z=>(hch p.1 z).2.2.2 p hp rfl
  exact⟨keep p.1 p.2 ne nf nch e n,free p.1 p.2 nch e n,ne,nf,d⟩
theorem Inv.un {t':Nat}(I:Inv X pins σ H s)(u:Un X.fs [] H H' s.heap h')(hok:HOk X.prog X.w H' h'):Inv X pins σ H' { s with heap:=h',toks:=t' }:=by
 obtain⟨m,⟨o,es,ep,ho,r⟩,_⟩:=id I.loc
 obtain⟨sl,hL⟩:=u.any ho I.free (by simp)
 exact I.step (g':=s.gens) (d':=s.drawn) (ch:=[]) (fun _ z=>nomatch z) (fun b o _ hb _ e n=>u.keep b o e n hb (by simp)) (fun b o _ hb _ e n=>u.slot b o e n hb (by simp)) (fun b o _ e n=>u.free b o e n (by simp)) (fun b o _ e=>u.there b o e (by simp)) u.tups u.frzs u.tbls (fun m' hm=>by
  obtain⟨o',es',ep',ho',r'⟩:=hm
  rw[ho]at ho';cases ho'
  exact⟨_,es',ep',hL,r'⟩) hok I.bare
theorem Inv.call {g':Array GenState}{t':Nat}{d':Drawn}{ch:List Addr}(I:Inv X pins σ H s)(u:Un (frs X.stack) ch H H' s.heap h')(hok:HOk X.prog X.w H' h')(hg:AllBare g')
  (hch:∀b∈ch,(b∈X.ex∨X.s₀.heap.objs.size≤b)∧b≠X.env.locals∧(∀x c,X.env.cells.lookup x=some c→c≠b)∧∀p∈X.pn++pins,p.1≠b):
  Inv X pins σ H' { s with heap:=h',gens:=g',drawn:=d',toks:=t' }:=by
 obtain⟨m,⟨o,es,ep,ho,r⟩,_⟩:=id I.loc
 obtain⟨sl,hL⟩:=u.any ho I.free fun z=>(hch _ z).2.1 rfl
 exact I.step (ch:=ch) hch (fun b o hL hb hc e n=>u.keep b o e n (fun z=>(List.mem_cons.mp (I.stkSub b z)).elim hL hb) hc) (fun b o _ _ hc e n=>u.any e n hc) (fun b o hc e n=>u.free b o e n hc) (fun b o hc e=>u.there b o e hc) u.tups u.frzs u.tbls (fun m' hm=>by
  obtain⟨o',es',ep',ho',r'⟩:=hm
  rw[ho]at ho';cases ho'
  exact⟨_,es',ep',hL,r'⟩) hok hg
theorem Inv.turned {t':Nat}{it:Addr}(I:Inv X pins σ H s)(k:∀b o,b≠it→s.heap.get? b=some o→h'.get? b=some o)(hn:H it=none)(hL:it≠X.env.locals)
  (h1:it∈X.ex∨X.s₀.heap.objs.size≤it) (h2:∀x c,X.env.cells.lookup x=some c→c≠it) (h3:∀p∈X.pn++pins,p.1≠it):Inv X pins σ H { s with heap:=h',toks:=t' }:=by
 have nit:∀b u,H b=some u→b≠it:=fun b u e z=>by rw[z,hn]at e;cases e
 refine I.step (g':=s.gens) (d':=s.drawn) (ch:=[it]) (fun b hb=>?_) (fun b o _ _ hc e _=>k b o (fun z=>hc (by simp[z])) e) (fun b o _ _ hc e _=>⟨o.slots,k b o (fun z=>hc (by simp[z])) e⟩) (fun _ _ _ _ n=>n)
  (fun b o hc e=>⟨o,k b o (fun z=>hc (by simp[z])) e⟩) (fun _ _ e=>e) (fun _ _ _ e=>e) (fun b ps e=>⟨#[],by rw[e];simp⟩) (fun m hm=>?_) (fun b u e=>?_) I.bare
 ·have e:b=it:=by simpa using hb
  subst e
  exact⟨h1,hL,h2,h3⟩
 ·obtain⟨o,es,ep,ho,r⟩:=hm
  exact⟨o,es,ep,k _ o (Ne.symm hL) ho,r⟩
 ·refine(I.hok b u e).stay (fun c v hc q=>k c v ?_ q) (fun _ q=>q) fun _ _ q=>q
  rcases hc with z | z
  ·rw[z];exact nit b u e
  ·exact nit c _ z
theorem Inv.tok (I:Inv X pins σ H s)(t:Nat):Inv X pins σ H { s with toks:=t }:=I.un (h':=s.heap) (t':=t) Un.refl I.hok
theorem Inv.kept {t':Nat}(I:Inv X pins σ H s)(k:∀b u,s.heap.get? b=some u→h'.get? b=some u):Inv X pins σ H { s with heap:=h',toks:=t' }:=I.un (Un.kept k) (I.hok.kept k)
theorem Inv.laid {a:Addr}{o:HO}{t':Nat}(I:Inv X pins σ H s)(k:∀b u,s.heap.get? b=some u→h'.get? b=some u)(hp:s.heap.objs.size≤a)(new:ObjOk X.prog X.w (upd H a o) h' a o):
  Inv X pins σ (upd H a o) { s with heap:=h',toks:=t' }:=I.un (Un.laid k hp (I.hok.fresh hp)) (I.hok.laid k hp new)
theorem Inv.write {x e:Addr}{o:HO}{t':Nat}(I:Inv X pins σ H s)(mu:Mut (H x))(he:e=x∨H e=some (.own x))(k:∀b u,b≠e→s.heap.get? b=some u→h'.get? b=some u)(heo:∃u,h'.get? e=some u)
  (new:ObjOk X.prog X.w (upd H x o) h' x o):Inv X pins σ (upd H x o) { s with heap:=h',toks:=t' }:=I.un (Un.write mu he k heo) (I.hok.write mu he k heo new)
theorem Inv.pins_of {pins':List (Addr×Obj)}(I:Inv X pins σ H s)(h:∀p∈pins',s.heap.get? p.1=some p.2∧H p.1=none∧p.1≠X.env.locals∧p.1∉X.fs∧∀v,p.2.data≠.cell v):Inv X pins' σ H s:=
 ⟨I.ok,I.os,I.bare,I.base,I.loc,I.cell,I.free,I.freeC,fun p hp=>(List.mem_append.mp hp).elim (fun z=>I.pin p (List.mem_append_left _ z)) (h p),I.hok,I.len⟩
theorem nodup_ix {N:List Str}(hN:N.Nodup){i j:Nat}{x:Str}(a:N[i]?=some x)(b:N[j]?=some x):i=j:=by
 obtain⟨h1,e1⟩:=List.getElem?_eq_some_iff.mp a
 obtain⟨h2,e2⟩:=List.getElem?_eq_some_iff.mp b
 exact(List.getElem_inj hN).mp (e1.trans e2.symm)
theorem store_ok2 {M:Model}{A:Around}{E:Value→Shared→Prop}{i:Nat}{x:Str}{v:V}{u:Value}{Q:Unit→Shared→Prop}(I:Inv X pins σ H s)(hN:X.N.Nodup)(hi:X.N[i]?=some x)(hx:Loc X.env.scope x)(r:RelV v u)
  (h:∀s',Inv X pins (σ.set i (some v)) H s'→(∃a,Heap.SameBut a s.heap s'.heap∧(a=X.env.locals∨X.env.cells.lookup x=some a))→Q () s') (hf:X.fn x=true∨X.env.scope.names.lookup x=some .local:=by first | exact .inl rfl | exact .inr rfl | assumption):wpAny M A (storeName X.env x u) Q E s:=by
 obtain⟨m,hn,hl⟩:=id I.loc
 have hcls:(X.env.scope.kind == .class || (X.env.scope.kind == .module&&X.env.locals != X.env.globals))=false:=by rw[I.ok.kind];rfl
 have hiσ:i<σ.length:=by rw[I.len];exact(List.getElem?_eq_some_iff.mp hi).1
 have cne:=I.cne
 have tracked:∀ {a:Addr} {h':Heap},(∃o,s.heap.get? a=some o∧H a=none)→Heap.SameBut a s.heap h'→HOk X.prog X.w H h':=fun {a h'} ha hs b ob e=>by
  obtain⟨_,_,hfree⟩:=ha
  refine(I.hok b ob e).stay (fun c w' hc q=>(hs.2 c ?_).trans q) (fun _ q=>q) fun _ _ q=>q
  rintro rfl
  rcases hc with rfl | hc
  ·rw[hfree]at e;cases e
  ·rw[hfree]at hc;cases hc
 rcases hx with hk | hk
 ·refine wpAny_storeName_local hk hn (fun h' hn' hs=>?_) hcls
  obtain⟨oL,_,_,hoL,_⟩:=id hn
  refine h _ ⟨I.ok,I.os,I.bare,⟨fun b o e n hb hx=>?_,fun b o e n hb hx=>?_,I.base.free,fun b o e hx=>?_,I.base.tups,I.base.frzs,I.base.tbls⟩,⟨_,hn',fun j y v' e1 e2 e3=>?_⟩,fun y c e=>?_,I.free,I.freeC,fun p hp=>?_,tracked ⟨oL,hoL,I.free⟩ hs,by simpa using I.len⟩ ⟨_,hs,.inl rfl⟩
  ·exact(hs.2 b (Nat.ne_of_lt (Nat.lt_of_lt_of_le (Heap.lt_size e) I.ok.above))).trans (I.base.keep b o e n hb hx)
  ·obtain⟨sl,e1⟩:=I.base.slot b o e n hb hx
   exact⟨sl,(hs.2 b (Nat.ne_of_lt (Nat.lt_of_lt_of_le (Heap.lt_size e) I.ok.above))).trans e1⟩
  ·obtain⟨o',e1⟩:=I.base.there b o e hx
   exact⟨o',(hs.2 b (Nat.ne_of_lt (Nat.lt_of_lt_of_le (Heap.lt_size e) I.ok.above))).trans e1⟩
  ·by_cases hj:j=i
   ·subst hj
    rw[hi]at e1;cases e1
    rw[List.getElem?_set_self hiσ]at e2
    cases e2
    exact⟨u,r,.inl ⟨hk,by simp⟩⟩
   ·rw[List.getElem?_set_ne (Ne.symm hj)]at e2
    obtain⟨u',r',q⟩:=hl j y v' e1 e2 e3
    refine⟨u',r',?_⟩
    rcases q with⟨k,e⟩|⟨k,c,e,z⟩
    ·refine .inl ⟨k,?_⟩
     have:y≠x:=fun e=>hj (nodup_ix hN e1 (e▸hi))
     simp[this,e]
    ·exact .inr ⟨k,c,e,z.sameBut hs (cne y c e)⟩
  ·obtain⟨w',z⟩:=I.cell y c e
   exact⟨w',z.sameBut hs (cne y c e)⟩
  ·obtain⟨e,n,ne,nf,d⟩:=I.pin p hp
   exact⟨(hs.2 p.1 ne).trans e,n,ne,nf,d⟩
 ·have hfn:X.fn x=true:=by
   rcases hf with z | z
   ·exact z
   ·rw[z]at hk;cases hk
  obtain⟨c,hc⟩:=I.ok.has x (.inl hk)
  obtain⟨w',z⟩:=I.cell x c hc
  refine wpAny_storeName_cell I.ok.kind hk hc z (fun h' hc' hs=>?_)
  obtain⟨oc,hoc,hocd⟩:=id z
  refine h { s with heap:=h' } ⟨I.ok,I.os,I.bare,⟨fun b o e n hb hx=>?_,fun b o e n hb hx=>?_,I.base.free,fun b o e hx=>?_,I.base.tups,I.base.frzs,I.base.tbls⟩,⟨m,hn.sameBut hs (Ne.symm (cne x c hc)),fun j y v' e1 e2 e3=>?_⟩,fun y c' e=>?_,I.free,I.freeC,fun p hp=>?_,tracked ⟨oc,hoc,I.freeC x c hc⟩ hs,by simpa using I.len⟩ ⟨c,hs,.inr hc⟩
  ·exact(hs.2 b (Nat.ne_of_lt (Nat.lt_of_lt_of_le (Heap.lt_size e) (I.ok.cab x c hfn hc)))).trans (I.base.keep b o e n hb hx)
  ·obtain⟨sl,e1⟩:=I.base.slot b o e n hb hx
   exact⟨sl,(hs.2 b (Nat.ne_of_lt (Nat.lt_of_lt_of_le (Heap.lt_size e) (I.ok.cab x c hfn hc)))).trans e1⟩
  ·obtain⟨o',e1⟩:=I.base.there b o e hx
   exact⟨o',(hs.2 b (Nat.ne_of_lt (Nat.lt_of_lt_of_le (Heap.lt_size e) (I.ok.cab x c hfn hc)))).trans e1⟩
  ·by_cases hj:j=i
   ·subst hj
    rw[hi]at e1;cases e1
    rw[List.getElem?_set_self hiσ]at e2
    cases e2
    exact⟨u,r,.inr ⟨.inl hk,c,hc,hc'⟩⟩
   ·rw[List.getElem?_set_ne (Ne.symm hj)]at e2
    obtain⟨u',r',q⟩:=hl j y v' e1 e2 e3
    refine⟨u',r',?_⟩
    rcases q with q | ⟨k,c',e,z'⟩
    ·exact .inl q
    ·refine .inr ⟨k,c',e,z'.sameBut hs ?_⟩
     rintro rfl
     exact hj (nodup_ix hN e1 (I.ok.inj _ _ _ e hc▸hi))
  ·by_cases hcc:c'=c
   ·subst hcc;exact⟨_,hc'⟩
   ·obtain⟨w2,z2⟩:=I.cell y c' e
    exact⟨w2,z2.sameBut hs hcc⟩
  ·obtain⟨e,n,ne,nf,d⟩:=I.pin p hp
   refine⟨(hs.2 p.1 ?_).trans e,n,ne,nf,d⟩
   intro q
   rw[q,hoc]at e
   have q':oc=p.2:=Option.some.inj e
   exact d w' (by rw[←q'];exact hocd)
theorem store_ok {M:Model}{A:Around}{E:Value→Shared→Prop}{i:Nat}{x:Str}{v:V}{u:Value}{Q:Unit→Shared→Prop}(I:Inv X pins σ H s)(hN:X.N.Nodup)(hi:X.N[i]?=some x)(hx:Loc X.env.scope x)(r:RelV v u)
  (h:∀s',Inv X pins (σ.set i (some v)) H s'→Q () s') (hf:X.fn x=true∨X.env.scope.names.lookup x=some .local:=by first | exact .inl rfl | exact .inr rfl | assumption):wpAny M A (storeName X.env x u) Q E s:=
 store_ok2 I hN hi hx r (fun s' I' _=>h s' I') hf
theorem Inv.call' {s':Shared}{ch:List Addr}(I:Inv X pins σ H s)(ho:s'.os=s.os)(u:Un (frs X.stack) ch H H' s.heap s'.heap)(hok:HOk X.prog X.w H' s'.heap)(hg:AllBare s'.gens)
  (hch:∀b∈ch,(b∈X.ex∨X.s₀.heap.objs.size≤b)∧b≠X.env.locals∧(∀x c,X.env.cells.lookup x=some c→c≠b)∧∀p∈X.pn++pins,p.1≠b):Inv X pins σ H' s':=by
 obtain⟨h',g',d',t',o'⟩:=s'
 have e:o'=s.os:=ho
 subst e
 exact I.call (g':=g') (t':=t') (d':=d') u hok hg hch
end
abbrev XK:=Value→Option Addr→Hp→Prop
abbrev St:=List (Option V)
abbrev VK:=V→Hp→Prop
abbrev TE:=St→Hp→VK→Prop
abbrev TT:=St→Hp→(Bool→Hp→Prop)→Prop
abbrev TA:=St→Hp→(List V→Hp→Prop)→Prop
structure Ends where
 nx:St→Hp→Prop
 rt:VK
 bk:St→Hp→Prop:=fun _ _=>False
 ct:St→Hp→Prop:=fun _ _=>False
abbrev TS:=Ends→St→Hp→Prop
def EP (X:Cx)(pins:List (Addr×Obj))(σ:St)(Q:VK)(u:Value)(s':Shared):Prop:=∃v H',Inv X pins σ H' s'∧RelV v u∧Q v H'
def TP (X:Cx)(pins:List (Addr×Obj))(σ:St)(Q:Bool→Hp→Prop)(b:Bool)(s':Shared):Prop:=∃H',Inv X pins σ H' s'∧Q b H'
def AP (X:Cx)(pins:List (Addr×Obj))(σ:St)(Q:List V→Hp→Prop)(us:List Value)(s':Shared):Prop:=∃vs H',Inv X pins σ H' s'∧Vals vs us∧Q vs H'
def SP (X:Cx)(pins:List (Addr×Obj))(D:Ends)(f:Flow)(s':Shared):Prop:=
 match f with
 | .next=>∃σ' H',Inv X pins σ' H' s'∧D.nx σ' H'
 | .brk=>∃σ' H',Inv X pins σ' H' s'∧D.bk σ' H'
 | .cont=>∃σ' H',Inv X pins σ' H' s'∧D.ct σ' H'
 | .ret u=>∃v σ' H',Inv X pins σ' H' s'∧RelV v u∧D.rt v H'
def PE (X:Cx)(e:Expr)(t:TE):Prop:=
 ∀(pins:List (Addr×Obj)) (s:Shared) (σ:St) (H:Hp) (Q:VK),Inv X pins σ H s→t σ H Q→wpAny (model X.prog X.w) X.A (eval e X.env) (EP X pins σ Q) X.xe s
def PT (X:Cx)(e:Expr)(t:TT):Prop:=
 ∀(pins:List (Addr×Obj)) (s:Shared) (σ:St) (H:Hp) (Q:Bool→Hp→Prop),Inv X pins σ H s→t σ H Q→wpAny (model X.prog X.w) X.A (isTrue e X.env (eval e X.env)) (TP X pins σ Q) X.xe s
def PW (X:Cx)(e:Expr)(t:TT):Prop:=
 ∀(whole:Sem Value) (pins:List (Addr×Obj)) (s:Shared) (σ:St) (H:Hp) (Q:Bool→Hp→Prop),Inv X pins σ H s→t σ H Q→wpAny (model X.prog X.w) X.A (isTrue e X.env whole) (TP X pins σ Q) X.xe s
theorem PW.pt {X:Cx}{e:Expr}{t:TT}(h:PW X e t):PT X e t:=h _
def PA (X:Cx)(es:List Expr)(t:TA):Prop:=
 ∀(pos:Pos) (pins:List (Addr×Obj)) (s:Shared) (σ:St) (H:Hp) (Q:List V→Hp→Prop),Inv X pins σ H s→t σ H Q→wpAny (model X.prog X.w) X.A (spliced (backTo pos (starEach es X.env))) (AP X pins σ Q) X.xe s
def PS (X:Cx)(st:Stmt)(t:TS):Prop:=
 ∀(pins:List (Addr×Obj)) (s:Shared) (σ:St) (H:Hp) (D:Ends),Inv X pins σ H s→t D σ H→wpAny (model X.prog X.w) X.A (exec st X.env) (SP X pins D) X.xe s
def PSs (X:Cx)(st:List Stmt)(t:TS):Prop:=
 ∀(pins:List (Addr×Obj)) (s:Shared) (σ:St) (H:Hp) (D:Ends),Inv X pins σ H s→t D σ H→wpAny (model X.prog X.w) X.A (execs st X.env) (SP X pins D) X.xe s
theorem thn {α:Type}{t:Sem α}{Q Q':α→Shared→Prop}{M:Model}{A:Around}{E:Value→Shared→Prop}{s:Shared}(h:wpAny M A t Q E s)(hQ:∀a s,Q a s→Q' a s):wpAny M A t Q' E s:=wpAny_mono h hQ fun _ _ x=>x
section
variable {X:Cx}
theorem bin {a b:Expr}{ta tb:TE}(ha:PE X a ta)(hb:PE X b tb){pins:List (Addr×Obj)}{s:Shared}{σ:St}{H:Hp}{R:V→V→Hp→Prop}(I:Inv X pins σ H s)(h:ta σ H fun x H1=>tb σ H1 fun y H2=>R x y H2)
  {α:Type} {Q:α→Shared→Prop} {f:Value→Value→Sem α}
  (hf:∀v u s2 x y H2,Inv X pins σ H2 s2→RelV x v→RelV y u→R x y H2→wpAny (model X.prog X.w) X.A (f v u) Q X.xe s2):
  wpAny (model X.prog X.w) X.A (eval a X.env) (fun v s₁=>wpAny (model X.prog X.w) X.A (eval b X.env) (fun u s₂=>wpAny (model X.prog X.w) X.A (f v u) Q X.xe s₂) X.xe s₁) X.xe s:=by
 refine thn (ha pins s σ H _ I h) fun v s1 ⟨x,H1,I1,r1,q1⟩=>?_
 refine thn (hb pins s1 σ H1 _ I1 q1) fun u s2 ⟨y,H2,I2,r2,q2⟩=>?_
 exact hf v u s2 x y H2 I2 r1 r2 q2
def tVar (i:Nat):TE:=fun σ H Q=>∃v,σ[i]?=some (some v)∧Q v H
def tC (v:V):TE:=fun _ H Q=>Q v H
theorem pe_var {i:Nat} {x:Str} {pos:Pos} (hN:X.N[i]?=some x) (hv:Vis X.env.scope x) (hd:(x == ("__debug__":Str))=false:=by decide) (hcd:(x == ("__classdict__":Str))=false:=by decide):PE X (.Name x pos) (tVar i):=by
 intro pins s σ H Q I h
 obtain⟨v,e,h⟩:=h
 obtain⟨m,hn,hl⟩:=I.loc
 obtain⟨u,r,l⟩:=hl i x v hN e hv
 have fin:EP X pins σ Q u s:=⟨v,H,I,r,h⟩
 rcases l with⟨hk,hm⟩|⟨hk,c,hc,hcell⟩
 ·exact wpAny_Name (wpAny_loadName_local I.ok.kind hk hn hm fin) hd
 ·rcases hk with hk | hk
  ·exact wpAny_Name (wpAny_loadName_cell I.ok.kind hk hc hcell fin) hd
  ·exact wpAny_Name (wpAny_loadName_free I.ok.kind hk hc hcell fin hcd) hd
theorem pe_int {i j pos}:PE X (.Constant (.int i) j pos) (tC (.int i)):=fun _ _ _ H _ I h=>wpAny_Constant_int ⟨.int i,H,I.tok _,⟨_,rfl⟩,h⟩
theorem pe_bl {b j pos}:PE X (.Constant (.bool b) j pos) (tC (.bl b)):=fun _ _ _ H _ I h=>Constant_bool ⟨.bl b,H,I,rfl,h⟩
theorem pe_non {j pos}:PE X (.Constant .none j pos) (tC .non):=fun _ _ _ H _ I h=>Constant_none ⟨.non,H,I,rfl,h⟩
theorem pe_str {x j pos}:PE X (.Constant (.str x) j pos) (tC (.str x)):=fun _ _ _ H _ I h=>Calls.Constant_str ⟨.str x,H,I.tok _,⟨_,rfl⟩,h⟩
def Gl (X:Cx)(x:Str):Prop:=X.env.kindOf x=some .globalImplicit
theorem ld_glob {E:Value→Shared→Prop}{pins:List (Addr×Obj)}{s:Shared}{σ:St}{H:Hp}{x:Str}{u:Value}{pos:Pos}{Q:Value→Shared→Prop}(I:Inv X pins σ H s)(hg:Gl X x)(hm:X.mg x=some u)(h:Q u s)
  (hd:(x == ("__debug__":Str))=false:=by decide):wpAny (model X.prog X.w) X.A (eval (.Name x pos) X.env) Q E s:=
 Calls.Name_function_global I.ok.kind hg (Calls.loadGlobal_global (by rw[I.ok.glob];exact I.mod.glob.keeps I.bk) hm h) hd
theorem ld_blt {E:Value→Shared→Prop}{pins:List (Addr×Obj)}{s:Shared}{σ:St}{H:Hp}{x:Str}{u:Value}{pos:Pos}{Q:Value→Shared→Prop}(I:Inv X pins σ H s)(hg:Gl X x)(hm:X.mg x=none)(hv:bootBuiltins x=some u)(h:Q u s)
  (hn:x≠"__name__":=by decide) (hd:(x == ("__debug__":Str))=false:=by decide):wpAny (model X.prog X.w) X.A (eval (.Name x pos) X.env) Q E s:=by
 obtain⟨mb,h1,h2⟩:=I.mod.blt
 exact Calls.Name_function_global I.ok.kind hg (Calls.loadGlobal_builtin (by rw[I.ok.glob];exact I.mod.glob.keeps I.bk) hm (by rw[I.ok.blt];exact h1.keeps I.bk) ((h2 x hn).trans hv) h) hd
theorem pe_glob {x:Str} {v:V} {u:Value} {pos:Pos} (hg:Gl X x) (hm:X.mg x=some u) (r:RelV v u) (hd:(x == ("__debug__":Str))=false:=by decide):PE X (.Name x pos) (tC v):=
 fun _ _ _ H _ I h=>ld_glob I hg hm ⟨v,H,I,r,h⟩ hd
theorem pe_bltn {x:Str} {v:V} {u:Value} {pos:Pos} (hg:Gl X x) (hm:X.mg x=none) (hv:bootBuiltins x=some u) (r:RelV v u) (hn:x≠"__name__":=by decide) (hd:(x == ("__debug__":Str))=false:=by decide):PE X (.Name x pos) (tC v):=
 fun _ _ _ H _ I h=>ld_blt I hg hm hv ⟨v,H,I,r,h⟩ hn hd
variable {a b:Expr}{ta tb:TE}{pos:Pos}
def PC (X:Cx)(op:CmpOp)(a b:Expr)(t:TE):Prop:=
 ∀(pins:List (Addr×Obj)) (s:Shared) (σ:St) (H:Hp) (Q:VK),Inv X pins σ H s→t σ H Q →
  wpAny (model X.prog X.w) X.A (eval a X.env) (fun v s₁=>wpAny (model X.prog X.w) X.A (eval b X.env) (fun u s₂=>wpAny (model X.prog X.w) X.A (compareOp op v u) (EP X pins σ Q) X.xe s₂) X.xe s₁) X.xe s
theorem nobehind (b:Expr){op:CmpOp}(h:op≠.In)(h2:op≠.NotIn):behindInMarks op b=false:=by
 have e1:(op == CmpOp.In)=false:=by cases op<;>first | rfl | exact absurd rfl h
 have e2:(op == CmpOp.NotIn)=false:=by cases op<;>first | rfl | exact absurd rfl h2
 cases b<;>simp[behindInMarks,e1,e2]
def tB (t:TE):TT:=fun σ H Q=>t σ H fun x H1=>∃c,x=.bl c∧Q c H1
theorem pt_cmp {op:CmpOp}{t:TE}(h:PC X op a b t)(h1:behindInMarks op b=false:=by first | exact nobehind _ (by decide) (by decide) | rfl):PT X (.Compare a [op] [b] pos) (tB t):=by
 intro pins s σ H Q I hw
 refine wpAny_isTrue_Compare1 (thn (h pins s σ H _ I hw) fun v s1 h1=>thn h1 fun u s2 h2=>thn h2 fun c s3 ⟨x,H1,I1,r1,q1⟩=>?_) h1
 obtain⟨d,rfl,q⟩:=q1
 cases r1
 exact wpAny_truthy_bool ⟨H1,I1,q⟩
theorem pt_val {e:Expr}{t:TE}(h:PE X e t)(he:∀whole,isTrue e X.env whole=(do let v ←whole;standAt e.pos;holding [v] (truthy v)):=by intro _;rfl):PT X e (tB t):=by
 intro pins s σ H Q I hw
 refine isTrue_plain (thn (h pins s σ H _ I hw) fun v s1 ⟨x,H1,I1,r1,q1⟩=>?_) (he _)
 obtain⟨d,rfl,q⟩:=q1
 cases r1
 exact wpAny_truthy_bool ⟨H1,I1,q⟩
variable {tA tB':TT}{rest:List Expr}
def tAnd (t u:TT):TT:=fun σ H Q=>t σ H fun c H1=>if c=true then u σ H1 Q else Q false H1
def tOr (t u:TT):TT:=fun σ H Q=>t σ H fun c H1=>if c=true then Q true H1 else u σ H1 Q
def tNot (t:TT):TT:=fun σ H Q=>t σ H fun c H1=>Q (!c) H1
theorem pw_and1 (ha:PT X a tA):PW X (.BoolOp .And [a] pos) tA:=by
 intro wh pins s σ H Q I h
 refine isTrue_and (thn (ha pins s σ H Q I h) fun c s1 e=>?_)
 cases c with
 | true=>exact isTrue_and_nil e
 | false=>exact e
theorem pw_or1 (ha:PT X a tA):PW X (.BoolOp .Or [a] pos) tA:=by
 intro wh pins s σ H Q I h
 refine isTrue_or (thn (ha pins s σ H Q I h) fun c s1 e=>?_)
 cases c with
 | false=>exact isTrue_or_nil e
 | true=>exact e
theorem pw_and (ha:PT X a tA)(hb:PW X (.BoolOp .And (b::rest) pos) tB'):PW X (.BoolOp .And (a::b::rest) pos) (tAnd tA tB'):=by
 intro wh pins s σ H Q I h
 refine isTrue_and (thn (ha pins s σ H _ I h) fun c s1 ⟨H1,I1,q1⟩=>?_)
 cases c with
 | true=>exact hb wh pins s1 σ H1 Q I1 q1
 | false=>exact⟨H1,I1,q1⟩
theorem pw_or (ha:PT X a tA)(hb:PW X (.BoolOp .Or (b::rest) pos) tB'):PW X (.BoolOp .Or (a::b::rest) pos) (tOr tA tB'):=by
 intro wh pins s σ H Q I h
 refine isTrue_or (thn (ha pins s σ H _ I h) fun c s1 ⟨H1,I1,q1⟩=>?_)
 cases c with
 | true=>exact⟨H1,I1,q1⟩
 | false=>exact hb wh pins s1 σ H1 Q I1 q1
theorem pt_not (ha:PT X a tA):PT X (.UnaryOp .Not a pos) (tNot tA):=by
 intro pins s σ H Q I h
 exact isTrue_not (ha pins s σ H (fun c H1=>Q (!c) H1) I h)
def tAndV (ta tb:TE):TE:=fun σ H Q=>ta σ H fun x H1=>∃c,x=.bl c∧if c=true then tb σ H1 Q else Q (.bl false) H1
def tOrV (ta tb:TE):TE:=fun σ H Q=>ta σ H fun x H1=>∃c,x=.bl c∧if c=true then Q (.bl true) H1 else tb σ H1 Q
def tNotV (ta:TE):TE:=fun σ H Q=>ta σ H fun x H1=>∃c,x=.bl c∧Q (.bl (!c)) H1
theorem pe_one {op}{t:TE}(h:PE X a t):PE X (.BoolOp op [a] pos) t:=fun pins s σ H Q I hw=>BoolOp_one (h pins s σ H Q I hw)
theorem pe_and (ha:PE X a ta)(hb:PE X (.BoolOp .And (b::rest) pos) tb):PE X (.BoolOp .And (a::b::rest) pos) (tAndV ta tb):=by
 intro pins s σ H Q I h
 refine BoolOp_and (thn (ha pins s σ H _ I h) fun v s1 ⟨x,H1,I1,r1,q1⟩=>?_)
 obtain⟨c,rfl,q1⟩:=q1
 cases r1
 refine wpAny_truthy_bool ?_
 cases c with
 | true=>exact hb pins s1 σ H1 Q I1 q1
 | false=>exact⟨.bl false,H1,I1,rfl,q1⟩
def tIf (t:TT)(ta tb:TE):TE:=fun σ H Q=>t σ H fun c H1=>if c=true then ta σ H1 Q else tb σ H1 Q
end
def SqL (K:PySem.W.Frag)(H:Hp)(a:Addr)(xs:List V):Prop:=
 Rd H a (.lst xs) ∨
  ∃(o:Obj) (its:Array Value) (n:Nat),K.lookup a=some o∧o.cls=.type "list"∧o.dict=none∧o.data=.seq its n∧its.size≤sizeLine∧Vals xs its.toList
def SqT (K:PySem.W.Frag)(H:Hp)(a:Addr)(xs:List V):Prop:=
 Rd H a (.tup xs) ∨
  ∃(o:Obj) (its:Array Value) (n:Nat),K.lookup a=some o∧o.cls=.type "tuple"∧o.data=.seq its n∧its.size≤sizeLine∧Vals xs its.toList
def absV:Value→Option V
 | .none=>some .non
 | .bool b=>some (.bl b)
 | .int i _=>some (.int i)
 | .str x _=>some (.str x)
 | .bytes b _=>some (.byt b)
 | .float b _=>some (.flt b)
 | .ref a=>some (.ref a)
 | .type n=>some (.ty n)
 | _=>none
theorem RelV.abs {x:V}{u:Value}(r:RelV x u):absV u=some x:=by
 cases x with
 | non=>cases r;rfl
 | bl _=>cases r;rfl
 | int _=>obtain⟨t,rfl⟩:=r;rfl
 | str _=>obtain⟨t,rfl⟩:=r;rfl
 | byt _=>obtain⟨t,rfl⟩:=r;rfl
 | flt _=>obtain⟨t,rfl⟩:=r;rfl
 | ref _=>cases r;rfl
 | ty _=>cases r;rfl
theorem RelV.inj {x y:V}{u:Value}(r:RelV x u)(q:RelV y u):x=y:=Option.some.inj (r.abs.symm.trans q.abs)
theorem Vals.inj:∀ {xs ys:List V} {us:List Value},Vals xs us→Vals ys us→xs=ys
 | _,_,_,.nil,.nil=>rfl
 | _,_,_,.cons r t,.cons r' t'=>by rw[r.inj r',Vals.inj t t']
section
variable {X:Cx}{pins:List (Addr×Obj)}{σ:St}{H:Hp}{s:Shared}{a:Addr}{xs ys:List V}
theorem Inv.list (I:Inv X pins σ H s)(h:SqL X.K H a xs):∃its:List Value,Vals xs its∧PlainL s.heap a its.toArray∧xs.length≤sizeLine:=by
 rcases h with h | ⟨o,its,n,hk,hc,hd,hs,hz,r⟩
 ·obtain⟨z,its,n,r,e⟩:=h.ok I.hok
  exact⟨its,r,⟨_,n,e,rfl,rfl,rfl⟩,z⟩
 ·refine⟨its.toList,r,⟨o,n,I.kIn a o hk,hc,hd,by simpa using hs⟩,?_⟩
  have e:=r.length
  simp only[Array.length_toList]at e
  omega
theorem Inv.tuple (I:Inv X pins σ H s)(h:SqT X.K H a xs):∃its:List Value,Vals xs its∧IsTup s.heap a its.toArray∧xs.length≤sizeLine:=by
 rcases h with h | ⟨o,its,n,hk,hc,hs,hz,r⟩
 ·obtain⟨z,its,r,p⟩:=h.ok I.hok
  exact⟨its,r,p,z⟩
 ·refine⟨its.toList,r,⟨o,I.kIn a o hk,hc,n,by simpa using hs⟩,?_⟩
  have e:=r.length
  simp only[Array.length_toList]at e
  omega
theorem Inv.list_inj (I:Inv X pins σ H s)(h:SqL X.K H a xs)(h':SqL X.K H a ys):xs=ys:=by
 obtain⟨its,r,⟨o,n,e,_,_,d⟩,_⟩:=I.list h
 obtain⟨its',r',⟨o',n',e',_,_,d'⟩,_⟩:=I.list h'
 rw[e]at e';cases e'
 rw[d]at d'
 injection d' with d1 _
 have:its=its':=by simpa using congrArg Array.toList d1
 subst this
 exact r.inj r'
theorem Inv.tuple_inj (I:Inv X pins σ H s)(h:SqT X.K H a xs)(h':SqT X.K H a ys):xs=ys:=by
 obtain⟨its,r,⟨o,e,_,n,d⟩,_⟩:=I.tuple h
 obtain⟨its',r',⟨o',e',_,n',d'⟩,_⟩:=I.tuple h'
 rw[e]at e';cases e'
 rw[d]at d'
 injection d' with d1 _
 have:its=its':=by simpa using congrArg Array.toList d1
 subst this
 exact r.inj r'
end
abbrev Cx.wish (X:Cx)(E:Value→Shared→Prop):Cx:={ X with xe:=E }
abbrev Cx.nox (X:Cx):Cx:=X.wish fun _ _=>False
theorem Cx.Ok.wish {X:Cx}(ok:X.Ok)(E:Value→Shared→Prop):(X.wish E).Ok:=
 ⟨ok.mod,ok.kind,ok.glob,ok.blt,ok.above,ok.inj,ok.has,ok.cab,ok.hd,ok.frames,ok.stk,ok.exf,ok.bs,ok.bsz,ok.noex,ok.exfs,ok.funs,ok.frf⟩
theorem Cx.Ok.unwish {X:Cx}{E:Value→Shared→Prop}(ok:(X.wish E).Ok):X.Ok:=
 ⟨ok.mod,ok.kind,ok.glob,ok.blt,ok.above,ok.inj,ok.has,ok.cab,ok.hd,ok.frames,ok.stk,ok.exf,ok.bs,ok.bsz,ok.noex,ok.exfs,ok.funs,ok.frf⟩
section
variable {X:Cx}{pins:List (Addr×Obj)}{σ:St}{H:Hp}{s:Shared}{E:Value→Shared→Prop}
theorem Inv.wish (I:Inv X pins σ H s)(E:Value→Shared→Prop):Inv (X.wish E) pins σ H s:=⟨I.ok.wish E,I.os,I.bare,I.base,I.loc,I.cell,I.free,I.freeC,I.pin,I.hok,I.len⟩
theorem Inv.unwish (I:Inv (X.wish E) pins σ H s):Inv X pins σ H s:=⟨I.ok.unwish,I.os,I.bare,I.base,I.loc,I.cell,I.free,I.freeC,I.pin,I.hok,I.len⟩
theorem SP.unwish {D:Ends}{f:Flow}{s':Shared}(h:SP (X.wish E) pins D f s'):SP X pins D f s':=by
 cases f with
 | next=>obtain⟨σ',H',I,q⟩:=h;exact⟨σ',H',I.unwish,q⟩
 | brk=>obtain⟨σ',H',I,q⟩:=h;exact⟨σ',H',I.unwish,q⟩
 | cont=>obtain⟨σ',H',I,q⟩:=h;exact⟨σ',H',I.unwish,q⟩
 | ret u=>obtain⟨v,σ',H',I,r,q⟩:=h;exact⟨v,σ',H',I.unwish,r,q⟩
theorem PSs.nox {st:List Stmt}{t:TS}(h:PSs X.nox st t):PSs X st t:=fun pins s σ H D I hw=>
 wpAny_mono (h pins s σ H D (I.wish _) hw) (fun _ _ q=>q.unwish) fun _ _ z=>False.elim z
end
section
variable {X:Cx}{st:Stmt}{rest:List Stmt}{t u:TS}{e:Expr}{te:TE}{pos:Pos}
def tNext:TS:=fun D σ H=>D.nx σ H
def tSeq (t u:TS):TS:=fun D σ H=>t { D with nx:=u D } σ H
theorem pss_nil:PSs X [] tNext:=fun _ _ σ H _ I h=>wpAny_execs_nil ⟨σ,H,I,h⟩
theorem pss_cons (h1:PS X st t)(h2:PSs X rest u):PSs X (st::rest) (tSeq t u):=by
 intro pins s σ H D I h
 refine wpAny_execs_cons (thn (h1 pins s σ H { D with nx:=u D } I h) fun f s1 q=>?_)
 cases f with
 | next=>
  obtain⟨σ',H',I',q⟩:=q
  exact h2 pins s1 σ' H' D I' q
 | ret v=>exact q
 | brk=>exact q
 | cont=>exact q
theorem pss_one (h1:PS X st t):PSs X [st] t:=by
 intro pins s σ H D I h
 refine wpAny_execs_cons (thn (h1 pins s σ H D I h) fun f s1 q=>?_)
 cases f with
 | next=>exact wpAny_execs_nil q
 | ret v=>exact q
 | brk=>exact q
 | cont=>exact q
theorem Inv.quiet {pins:List (Addr×Obj)}{σ:St}{H:Hp}{s:Shared}(I:Inv X pins σ H s):interactive X.env=false:=by simp[interactive,I.ok.kind]
def tDrop (te:TE):TS:=fun D σ H=>te σ H fun _ H1=>D.nx σ H1
theorem ps_expr (he:PE X e te)(hs:swapsWith e none pos.line X.env=pure false:=by rfl):PS X (.Expr e pos) (tDrop te):=by
 intro pins s σ H D I h
 exact wpAny_Expr_any (thn (he pins s σ H _ I h) fun v s1 ⟨x,H1,I1,r1,q1⟩=>⟨σ,H1,I1,q1⟩) I.quiet hs
def tRet (te:TE):TS:=fun D σ H=>te σ H D.rt
theorem ps_ret (he:PE X e te):PS X (.Return (some e) pos) (tRet te):=by
 intro pins s σ H D I h
 exact wpAny_Return_some (thn (he pins s σ H _ I h) fun v s1 ⟨x,H1,I1,r1,q1⟩=>⟨x,σ,H1,I1,r1,q1⟩)
def tRetN:TS:=fun D _ H=>D.rt .non H
def tIfS (c:TT)(t u:TS):TS:=fun D σ H=>c σ H fun b H1=>if b=true then t D σ H1 else u D σ H1
theorem ps_if {c:Expr}{a b:List Stmt}{tc:TT}(hc:PT X c tc)(ha:PSs X a t)(hb:PSs X b u):PS X (.If c a b pos) (tIfS tc t u):=by
 intro pins s σ H D I h
 refine wpAny_If (thn (hc pins s σ H _ I h) fun d s1 ⟨H1,I1,q1⟩=>?_)
 cases d with
 | true=>exact ha pins s1 σ H1 D I1 q1
 | false=>exact hb pins s1 σ H1 D I1 q1
end
abbrev TG:=V→St→Hp→(St→Hp→Prop)→Prop
abbrev TGs:=List V→St→Hp→(St→Hp→Prop)→Prop
def PG (X:Cx)(target:Expr)(t:TG):Prop:=
 ∀(pins:List (Addr×Obj)) (s:Shared) (σ:St) (H:Hp) (v:V) (u:Value) (Q:St→Hp→Prop),Inv X pins σ H s→RelV v u→t v σ H Q →
  wpAny (model X.prog X.w) X.A (assign target X.env u) (fun _ s'=>∃σ' H',Inv X pins σ' H' s'∧Q σ' H') X.xe s
abbrev TIp:=V→V→Hp→VK→Prop
def PIp (X:Cx)(op:Operator)(t:TIp):Prop:=
 ∀(pins:List (Addr×Obj)) (s:Shared) (σ:St) (H:Hp) (x y:V) (v u:Value) (Q:VK),Inv X pins σ H s→RelV x v→RelV y u→t x y H Q →
  wpAny (model X.prog X.w) X.A (inplaceOp op v u) (EP X pins σ Q) X.xe s
section
variable {X:Cx}{pos:Pos}
def gName (i:Nat):TG:=fun v σ H Q=>Q (σ.set i (some v)) H
theorem pg_name {i:Nat}{x:Str}(hN:X.N.Nodup)(hi:X.N[i]?=some x)(hx:Loc X.env.scope x)(hf:X.fn x=true∨X.env.scope.names.lookup x=some .local:=by first | exact .inl rfl | exact .inr rfl | assumption):PG X (.Name x pos) (gName i):=by
 intro pins s σ H v u Q I r h
 exact wpAny_assign_Name (store_ok I hN hi hx r (fun s' I'=>⟨_,H,I',h⟩) hf)
def gNil:TGs:=fun vs σ H Q=>vs=[]∧Q σ H
def gCons (t:TG)(u:TGs):TGs:=fun vs σ H Q=>∃v r,vs=v::r∧t v σ H fun σ' H'=>u r σ' H' Q
def gTup (K:PySem.W.Frag)(n:Nat)(t:TGs):TG:=fun v σ H Q=>∃a xs,v=.ref a∧SqT K H a xs∧xs.length=n∧t xs σ H Q
def tAsg (te:TE)(g:TG):TS:=fun D σ H=>te σ H fun x H1=>g x σ H1 D.nx
theorem ps_set {i:Nat}{x:Str}{e:Expr}{te:TE}{pos':Pos}(hN:X.N.Nodup)(hi:X.N[i]?=some x)(hx:Loc X.env.scope x)(he:PE X e te)(hs:swapsWith e (some (.Name x pos')) pos.line X.env=pure false:=by rfl)(hf:X.fn x=true∨X.env.scope.names.lookup x=some .local:=by first | exact .inl rfl | exact .inr rfl | assumption):
  PS X (.Assign [.Name x pos'] e pos) (tAsg te (gName i)):=by
 intro pins s σ H D I h
 refine wpAny_Assign_Name (thn (he pins s σ H _ I h) fun v s1 ⟨y,H1,I1,r1,q1⟩=>?_) hs
 exact store_ok I1 hN hi hx r1 (fun s2 I2=>⟨_,H1,I2,q1⟩) hf
def tPar (i j:Nat)(ta:TA):TS:=fun D σ H=>ta σ H fun vs H1=>∃v w,vs=[v,w]∧D.nx ((σ.set i (some v)).set j (some w)) H1
def tAug (i:Nat)(te:TE)(ti:TIp):TS:=fun D σ H=>∃x,σ[i]?=some (some x)∧te σ H fun y H1=>ti x y H1 fun z H2=>D.nx (σ.set i (some z)) H2
theorem ps_aug {i:Nat}{x:Str}{e:Expr}{te:TE}{op:Operator}{ti:TIp}{pos':Pos}(hN:X.N.Nodup)(hi:X.N[i]?=some x)(hx:Loc X.env.scope x)(he:PE X e te)(ho:PIp X op ti)(hf:X.fn x=true∨X.env.scope.names.lookup x=some .local:=by first | exact .inl rfl | exact .inr rfl | assumption):
  PS X (.AugAssign (.Name x pos') op e pos) (tAug i te ti):=by
 intro pins s σ H D I h
 obtain⟨v,e1,h⟩:=h
 obtain⟨m,hn,hl⟩:=I.loc
 have vis:Vis X.env.scope x:=by rcases hx with k | k;exact .inl k;exact .inr (.inl k)
 obtain⟨u,r,l⟩:=hl i x v hi e1 vis
 refine wpAny_AugAssign_Name ?_
 have go:wpAny (model X.prog X.w) X.A (eval e X.env) (fun w s₂=>wpAny (model X.prog X.w) X.A (inplaceOp op u w) (fun r s₃=>wpAny (model X.prog X.w) X.A (storeName X.env x r) (fun _=>SP X pins D .next) X.xe s₃) X.xe s₂) X.xe s:=by
  refine thn (he pins s σ H _ I h) fun w s1 ⟨y,H1,I1,r1,q1⟩=>?_
  refine thn (ho pins s1 σ H1 v y u w _ I1 r r1 q1) fun z s2 ⟨zv,H2,I2,r2,q2⟩=>?_
  exact store_ok I2 hN hi hx r2 (fun s3 I3=>⟨_,H2,I3,q2⟩) hf
 rcases l with⟨hk,hm⟩|⟨hk,c,hc,hcell⟩
 ·exact wpAny_loadName_local I.ok.kind hk hn hm go
 ·rcases hk with hk | hk
  ·exact wpAny_loadName_cell I.ok.kind hk hc hcell go
  ·rcases hx with k | k
   ·have:X.env.scope.names.lookup x=some .free:=hk
    rw[k]at this;cases this
   ·have:X.env.scope.names.lookup x=some .free:=hk
    rw[k]at this;cases this
def ipI (f:Int→Int→Int):TIp:=fun x y H Q=>∃i j,x=.int i∧y=.int j∧Q (.int (f i j)) H
theorem ip_add:PIp X .Add (ipI fun i j=>i+j):=by
 intro pins s σ H x y v u Q I r1 r2 h
 obtain⟨i,j,e1,e2,q⟩:=h
 subst e1;subst e2
 obtain⟨t,rfl⟩:=r1
 obtain⟨t',rfl⟩:=r2
 exact iadd_int ⟨.int _,H,I.tok _,⟨_,rfl⟩,q⟩
end
section
variable {X:Cx}{pos:Pos}
def tWhile (c:TT)(tb:TS):TS:=fun D σ H=>∃W:Nat→St→Hp→Prop,(∃m,W m σ H)∧∀m σ H,W m σ H →
 c σ H fun b H1=>if b=true then ∃N:St→Hp→Prop,(∀σ' H',N σ' H'→∃m',m'<m∧W m' σ' H')∧tb { D with nx:=N,ct:=N,bk:=D.nx } σ H1 else D.nx σ H1
theorem ps_while {c:Expr}{body:List Stmt}{tc:TT}{tb:TS}(hp:PassesOwn (model X.prog X.w) X.A X.env X.xe)(hc:PT X c tc)(hb:PSs X body tb):PS X (.While c body [] pos) (tWhile tc tb):=by
 intro pins s σ H D I h
 obtain⟨W,⟨m0,w0⟩,turn⟩:=h
 refine wpAny_While (codeAny_whileLoop (fun n s'=>∃σ' H',Inv X pins σ' H' s'∧W n σ' H') ?_ m0 ⟨σ,H,I,w0⟩)
 rintro n s1 ⟨σ1,H1,I1,w1⟩
 refine wpAny_passesOwn hp (thn (hc pins s1 σ1 H1 _ I1 (turn n σ1 H1 w1)) fun b s2 ⟨H2,I2,q2⟩=>?_)
 cases b with
 | true=>
  obtain⟨N,hN,q2⟩:=q2
  rw[if_pos rfl]
  refine wpAny_passesOwn hp (thn (hb pins s2 σ1 H2 _ I2 q2) fun f s3 q3=>?_)
  cases f with
  | next=>
   obtain⟨σ3,H3,I3,n3⟩:=q3
   obtain⟨m',hm,w3⟩:=hN σ3 H3 n3
   exact⟨m',hm,σ3,H3,I3,w3⟩
  | cont=>
   obtain⟨σ3,H3,I3,n3⟩:=q3
   obtain⟨m',hm,w3⟩:=hN σ3 H3 n3
   exact⟨m',hm,σ3,H3,I3,w3⟩
  | brk=>exact q3
  | ret v=>exact q3
 | false=>
  rw[if_neg Bool.false_ne_true]
  exact wpAny_execs_nil ⟨σ1,H2,I2,q2⟩
end
structure It where
 go:Nat→Hp→Prop
 yld:Nat→Hp→V→Hp→Prop
 stop:Nat→Hp→Prop
def FpOk (X:Cx)(pins:List (Addr×Obj))(H:Hp)(b:Addr):Prop:=
 H b=none∧b≠X.env.locals∧b∉X.fs∧(b∈X.ex∨X.s₀.heap.objs.size≤b)∧(∀x c,X.env.cells.lookup x=some c→c≠b)∧∀p∈X.pn++pins,p.1≠b
theorem Inv.fpOk {X:Cx}{pins:List (Addr×Obj)}{σ:St}{H H':Hp}{s:Shared}{b:Addr}(I:Inv X pins σ H s)(hb:s.heap.objs.size≤b)(hn:H' b=none):FpOk X pins H' b:=by
 refine⟨hn,Nat.ne_of_gt (Nat.lt_of_lt_of_le I.lt hb),I.nofs hb,.inr (Nat.le_trans I.sz hb),fun x c e z=>?_,fun p hp z=>?_⟩
 ·obtain⟨v,q⟩:=I.cell x c e
  exact absurd (Nat.lt_of_lt_of_le q.lt (by rw[z];exact hb)) (Nat.lt_irrefl _)
 ·exact absurd (Nat.lt_of_lt_of_le (Heap.lt_size (I.pin p hp).1) (by rw[z];exact hb)) (Nat.lt_irrefl _)
structure Turn (P:Program)(w:World)(K:PySem.W.Frag)(tg:Expr)(J:It)(fp:List Addr)(it:Addr)(tn:Nat→Heap→Prop):Prop where
 mem:it∈fp
 obj:∀i h,tn i h→∀b∈fp,∃o,h.get? b=some o∧∀v,o.data≠.cell v
 keep:∀i h h',tn i h→(∀b∈fp,∀o,h.get? b=some o→h'.get? b=some o)→tn i h'
 item:∀(X:Cx),X.prog=P→X.w=w→X.K=K→X.calm=true→∀(i:Nat) (pins:List (Addr×Obj)) (s:Shared) (σ:St) (H:Hp) (E:Value→Shared→Prop),Inv X pins σ H s→(∀b∈fp,FpOk X pins H b)→tn i s.heap→J.go i H →
  wpAny (model P w) X.A (pyNext (.ref it)) (fun r s1=>∃u,r=some u ∧
   wpAny (model P w) X.A (letOwnedTupleGo tg (.ref it) u) (fun _ s2=>∃x H',Inv X pins σ H' s2∧RelV x u∧J.yld i H x H'∧tn (i+1) s2.heap∧∀b∈fp,H' b=none) E s1) E s
 done:∀(X:Cx),X.prog=P→X.w=w→X.K=K→X.calm=true→∀(i:Nat) (pins:List (Addr×Obj)) (s:Shared) (σ:St) (H:Hp) (E:Value→Shared→Prop),Inv X pins σ H s→(∀b∈fp,FpOk X pins H b)→tn i s.heap→J.stop i H →
  wpAny (model P w) X.A (pyNext (.ref it)) (fun r s1=>r=none∧Inv X pins σ H s1) E s
 self:∀(A:Around) (i:Nat) (s:Shared) (Q:Value→Shared→Prop) (E:Value→Shared→Prop),tn i s.heap→Q (.ref it) s→wpAny (model P w) A (pyIter (.ref it)) Q E s
abbrev TI:=St→Hp→(It→Hp→Prop)→Prop
def PIE (X:Cx)(pins:List (Addr×Obj))(σ:St)(tg:Expr)(R:It→Hp→Prop)(itv:Value)(s2:Shared):Prop:=
 ∃(it:Addr) (fp:List Addr) (tn:Nat→Heap→Prop) (J:It) (H':Hp),itv=.ref it∧Inv X pins σ H' s2∧Turn X.prog X.w X.K tg J fp it tn∧tn 0 s2.heap∧(∀b∈fp,FpOk X pins H' b)∧R J H'
def PI (X:Cx)(tg iter:Expr)(wi:TI):Prop:=
 ∀(pins:List (Addr×Obj)) (s:Shared) (σ:St) (H:Hp) (R:It→Hp→Prop),Inv X pins σ H s→wi σ H R →
  wpAny (model X.prog X.w) X.A (eval iter X.env) (fun v s1=>wpAny (model X.prog X.w) X.A (pyIter v) (PIE X pins σ tg R) X.xe s1) X.xe s
theorem go_of {M:Model}{A:Around}{E:Value→Shared→Prop}{s:Shared}{tg:Expr}{it:Addr}{u:Value}{o:Obj}{n:String}{vs:Array Value}{Q:Unit→Shared→Prop}(ho:s.heap.get? it=some o)(hc:o.cls=.type n)(hd:o.data=.fields vs)
    (hn:["enumerate","zip","dict_itemiterator","dict_reverseitemiterator","odict_iterator","itertools.zip_longest","itertools.pairwise"].contains n=false) (hQ:Q () s):wpAny M A (letOwnedTupleGo tg (.ref it) u) Q E s:=by
  unfold letOwnedTupleGo
  cases tg<;>first
    | exact wpAny_pure hQ
    | (cases u<;>first
        | exact wpAny_pure hQ
        | (refine wpAny_bind (wpAny_load ho ?_)
           rw[hc,hd]
           show wpAny M A (if (["enumerate","zip","dict_itemiterator","dict_reverseitemiterator","odict_iterator","itertools.zip_longest","itertools.pairwise"].contains n&&vs[0]? == some (rawInt _))=true then _ else _) Q E s
           rw[if_neg (by intro h;rw[hn,Bool.false_and]at h;cases h)]
           exact wpAny_pure hQ))
def Itl (K:PySem.W.Frag)(a:Addr):It:=
 ⟨fun i H=>∃xs x,SqL K H a xs∧xs[i]?=some x,fun i H x H'=>H'=H∧∀xs,SqL K H a xs→xs[i]?=some x,fun i H=>∃xs,SqL K H a xs∧xs.length≤i⟩
def Itt (K:PySem.W.Frag)(a:Addr):It:=
 ⟨fun i H=>∃xs x,SqT K H a xs∧xs[i]?=some x,fun i H x H'=>H'=H∧∀xs,SqT K H a xs→xs[i]?=some x,fun i H=>∃xs,SqT K H a xs∧xs.length≤i⟩
def Itr (lo:Int)(n:Nat):It:=⟨fun i _=>i<n,fun i H x H'=>H'=H∧x=.int (lo+i),fun i _=>n≤i⟩
theorem turn_list {P:Program}{w:World}{K:PySem.W.Frag}{tg:Expr}(a it:Addr):Turn P w K tg (Itl K a) [it] it (fun i h=>h.IsListIter it a i) where
 mem:=by simp
 obj:=fun i h st b hb=>by
  have e:b=it:=by simpa using hb
  subst e
  obtain⟨o,e,c,d⟩:=st
  exact⟨o,e,fun v z=>by rw[d]at z;cases z⟩
 keep:=fun i h h' st k=>st.at fun o e=>k it (by simp) o e
 item:=by
  intro X hP hw hK hc i pins s σ H E I hf st hg
  subst hP hw hK
  obtain⟨xs,x,hq,hx⟩:=hg
  obtain⟨its,rv,p,hz⟩:=I.list hq
  obtain⟨u,hu,ru⟩:=rv.get hx
  obtain⟨f0,f1,f2,f3,f4,f5⟩:=hf it (by simp)
  refine wpAny_pyNext_list_item st p.isList (x:=u) (by simpa using hu) fun h' st' sb=>?_
  have I1:Inv X pins σ H { s with heap:=h' }:=I.turned (t':=s.toks) (fun b o hb e=>(sb.2 b hb).trans e) f0 f1 f3 f4 f5
  obtain⟨o,e,c,d⟩:=id st'
  exact⟨u,rfl,go_of (s:={ s with heap:=h' }) e c d (by decide) ⟨x,H,I1,ru,⟨rfl,fun ys hy=>by rw[I.list_inj hy hq];exact hx⟩,st',fun b hb=>(hf b hb).1⟩⟩
 done:=by
  intro X hP hw hK hc i pins s σ H E I hf st hg
  subst hP hw hK
  obtain⟨xs,hq,hx⟩:=hg
  obtain⟨its,rv,p,hz⟩:=I.list hq
  obtain⟨f0,f1,f2,f3,f4,f5⟩:=hf it (by simp)
  have hl:=rv.length
  exact wpAny_pyNext_list_end (I.ok.hd hc) st p.isList (by simp;omega) fun h' eb=>⟨rfl,I.turned (t':=s.toks) (fun b o hb e=>eb b o hb e) f0 f1 f3 f4 f5⟩
 self:=fun _ _ _ _ _ st h=>wpAny_pyIter_listiter st h
theorem turn_tuple {P:Program}{w:World}{K:PySem.W.Frag}{tg:Expr}(a it:Addr):Turn P w K tg (Itt K a) [it] it (fun i h=>h.IsTupleIter it a i) where
 mem:=by simp
 obj:=fun i h st b hb=>by
  have e:b=it:=by simpa using hb
  subst e
  obtain⟨o,e,c,d⟩:=st
  exact⟨o,e,fun v z=>by rw[d]at z;cases z⟩
 keep:=fun i h h' st k=>st.at fun o e=>k it (by simp) o e
 item:=by
  intro X hP hw hK hc i pins s σ H E I hf st hg
  subst hP hw hK
  obtain⟨xs,x,hq,hx⟩:=hg
  obtain⟨its,rv,p,hz⟩:=I.tuple hq
  obtain⟨u,hu,ru⟩:=rv.get hx
  obtain⟨f0,f1,f2,f3,f4,f5⟩:=hf it (by simp)
  refine wpAny_pyNext_tuple_item st (show s.heap.IsTuple a its.toArray from p) (x:=u) (by simpa using hu) fun h' st' sb=>?_
  have I1:Inv X pins σ H { s with heap:=h' }:=I.turned (t':=s.toks) (fun b o hb e=>(sb.2 b hb).trans e) f0 f1 f3 f4 f5
  obtain⟨o,e,c,d⟩:=id st'
  exact⟨u,rfl,go_of (s:={ s with heap:=h' }) e c d (by decide) ⟨x,H,I1,ru,⟨rfl,fun ys hy=>by rw[I.tuple_inj hy hq];exact hx⟩,st',fun b hb=>(hf b hb).1⟩⟩
 done:=by
  intro X hP hw hK hc i pins s σ H E I hf st hg
  subst hP hw hK
  obtain⟨xs,hq,hx⟩:=hg
  obtain⟨its,rv,p,hz⟩:=I.tuple hq
  obtain⟨f0,f1,f2,f3,f4,f5⟩:=hf it (by simp)
  have hl:=rv.length
  exact wpAny_pyNext_tuple_end (I.ok.hd hc) st (show s.heap.IsTuple a its.toArray from p) (by simp;omega) fun h' eb=>⟨rfl,I.turned (t':=s.toks) (fun b o hb e=>eb b o hb e) f0 f1 f3 f4 f5⟩
 self:=fun _ _ _ _ _ st h=>wpAny_pyIter_tupleiter st h
theorem turn_range {P:Program}{w:World}{K:PySem.W.Frag}{tg:Expr}(it:Addr)(lo:Int)(n:Nat):Turn P w K tg (Itr lo n) [it] it (fun i h=>IsRangeIter h it (lo+(i:Nat)*1) ((n:Int)-(i:Nat)) 1) where
 mem:=by simp
 obj:=fun i h st b hb=>by
  have e:b=it:=by simpa using hb
  subst e
  exact⟨_,st,fun v z=>by
   have z':Data.fields _=Data.cell v:=z
   cases z'⟩
 keep:=fun i h h' st k=>k it (by simp) _ st
 item:=by
  intro X hP hw hK hc i pins s σ H E I hf st hg
  subst hP hw hK
  obtain⟨f0,f1,f2,f3,f4,f5⟩:=hf it (by simp)
  have W:=Walks.range (prog:=X.prog) (w:=X.w) (I.ok.hd hc) it lo 1 n
  refine W.item i s _ _ hg st fun v h' tk hv st' kk=>?_
  obtain⟨t,rfl⟩:=hv
  have I1:Inv X pins σ H { s with heap:=h',toks:=tk }:=I.turned (fun b o hb e=>kk b o (by simpa using hb) e) f0 f1 f3 f4 f5
  refine⟨_,rfl,go_of (s:={ s with heap:=h',toks:=tk }) (n:="range_iterator") st' rfl rfl (by decide) ⟨.int (lo+i),H,I1,⟨t,?_⟩,⟨rfl,rfl⟩,st',fun b hb=>(hf b hb).1⟩⟩
  rw[Int.mul_one]
 done:=by
  intro X hP hw hK hc i pins s σ H E I hf st hg
  subst hP hw hK
  obtain⟨f0,f1,f2,f3,f4,f5⟩:=hf it (by simp)
  exact wpAny_pyNext_range_end (I.ok.hd hc) st (by have:n≤i:=hg;omega) fun h' eb=>⟨rfl,I.turned (t':=s.toks) (fun b o hb e=>eb b o hb e) f0 f1 f3 f4 f5⟩
 self:=fun _ _ _ _ _ st h=>wpAny_pyIter_rangeiter st h
section
variable {X:Cx}{tg:Expr}
def iList (K:PySem.W.Frag)(tl:TE):TI:=fun σ H R=>tl σ H fun x H1=>∃a,x=.ref a∧(∃xs,SqL K H1 a xs)∧R (Itl K a) H1
def iTup (K:PySem.W.Frag)(tl:TE):TI:=fun σ H R=>tl σ H fun x H1=>∃a,x=.ref a∧(∃xs,SqT K H1 a xs)∧R (Itt K a) H1
theorem pi_tup {l:Expr}{tl:TE}(hl:PE X l tl):PI X tg l (iTup X.K tl):=by
 intro pins s σ H R I h
 refine thn (hl pins s σ H _ I h) fun v s1 ⟨x,H1,I1,r1,q1⟩=>?_
 obtain⟨a,e,⟨xs,hq⟩,q⟩:=q1
 subst e
 cases r1
 obtain⟨its,rv,p,hz⟩:=I1.tuple hq
 refine wpAny_pyIter_tuple (show s1.heap.IsTuple a its.toArray from p) ?_
 refine⟨s1.heap.objs.size,[s1.heap.objs.size],_,_,H1,rfl,I1.kept (t':=s1.toks) fun b o e=>Heap.get?_push_of_some _ e,turn_tuple a _,⟨_,Heap.get?_push_size _ rfl,rfl,rfl⟩,fun b hb=>?_,q⟩
 have e:b=s1.heap.objs.size:=by simpa using hb
 subst e
 exact I1.fpOk (Nat.le_refl _) (I1.hok.fresh (Nat.le_refl _))
theorem range_it {pins:List (Addr×Obj)}{σ:St}{H:Hp}{s:Shared}{R:It→Hp→Prop}{E:Value→Shared→Prop}{lo hi:Int}{t u v:Tok}{tk:Nat}(I:Inv X pins σ H s)(h1:-(2 ^ 62)≤lo)(h2:lo<2 ^ 62)(h3:-(2 ^ 62)≤hi)(h4:hi<2 ^ 62)
  (q:R (Itr lo (hi-lo).toNat) H):wpAny (model X.prog X.w) X.A (pyIter (.ref s.heap.objs.size)) (PIE X pins σ tg R) E { s with heap:=s.heap.push { cls:=.type "range",data:=.fields #[.int lo t,.int hi u,.int 1 v] },toks:=tk }:=by
 refine wpAny_pyIter_range (IsRange.new ..) (small_one h1 h2 h3 h4) ?_
 have I1:Inv X pins σ H { s with heap:=s.heap.push { cls:=.type "range",data:=.fields #[.int lo t,.int hi u,.int 1 v] },toks:=tk }:=I.kept fun b o e=>Heap.get?_push_of_some _ e
 refine⟨(s.heap.push { cls:=.type "range",data:=.fields #[.int lo t,.int hi u,.int 1 v] }).objs.size,[(s.heap.push { cls:=.type "range",data:=.fields #[.int lo t,.int hi u,.int 1 v] }).objs.size],_,_,H,rfl,
  I1.kept (t':=tk) fun b o e=>Heap.get?_push_of_some _ e,turn_range _ lo (hi-lo).toNat,?_,fun b hb=>?_,q⟩
 ·have e1:lo+((0:Nat):Int)*1=lo:=by simp
  have e2:(((hi-lo).toNat:Nat):Int)-((0:Nat):Int)=Builtin.Range.rangeSize lo hi 1:=by rw[rangeSize_one];split<;>omega
  show IsRangeIter _ _ (lo+((0:Nat):Int)*1) ((((hi-lo).toNat:Nat):Int)-((0:Nat):Int)) 1
  rw[e1,e2]
  exact Heap.get?_push_size _ rfl
 ·have e:b=(s.heap.push { cls:=.type "range",data:=.fields #[.int lo t,.int hi u,.int 1 v] }).objs.size:=by simpa using hb
  subst e
  exact I1.fpOk (Nat.le_refl _) (I1.hok.fresh (Nat.le_refl _))
def iRng1 (ta:TA):TI:=fun σ H R=>ta σ H fun vs H1=>∃j:Int,vs=[.int j]∧-(2 ^ 62)≤j∧j<2 ^ 62∧R (Itr 0 j.toNat) H1
def iRng2 (ta:TA):TI:=fun σ H R=>ta σ H fun vs H1=>∃i j:Int,vs=[.int i,.int j]∧(-(2 ^ 62)≤i∧i<2 ^ 62∧-(2 ^ 62)≤j∧j<2 ^ 62)∧R (Itr i (j-i).toNat) H1
theorem pi_range1 {a:Expr} {ta:TA} {p pos:Pos} (hg:Gl X "range") (hm:X.mg "range"=none) (ha:PA X [a] ta) (hs:starEach [a] X.env=[(false,eval a X.env)]:=by rfl):PI X tg (.Call (.Name "range" p) [a] [] pos) (iRng1 ta):=by
 intro pins s σ H R I h
 refine Call_ (ld_blt I hg hm boot_range (PyProof.Rows.callWith_type1 (thn (ha pos pins s σ H _ I h) fun us s1 ⟨vs,H1,I1,r1,q1⟩=>?_) hs rfl))
 obtain⟨j,e,q1,q2,q⟩:=q1
 subst e
 cases r1 with
 | cons r rr=>
  cases rr
  obtain⟨t,rfl⟩:=r
  exact call_range_1 (range_it I1 (by omega) (by omega) q1 q2 (by simpa using q))
def tFor (wi:TI)(g:TG)(tb:TS):TS:=fun D σ H=>wi σ H fun J H1=>∃W:Nat→Nat→St→Hp→Prop,(∃m,W 0 m σ H1)∧∀i m σ H,W i m σ H →
 (J.stop i H∧D.nx σ H)∨(J.go i H∧∃N:St→Hp→Prop,(∀σ' H',N σ' H'→∃m',m'<m∧W (i+1) m' σ' H')∧∀x H',J.yld i H x H'→g x σ H' fun σ2 H2=>tb { D with nx:=N,ct:=N,bk:=D.nx } σ2 H2)
def pinsAt (fp:List Addr)(h:Heap):List (Addr×Obj):=fp.filterMap fun b=>(h.get? b).map fun o=>(b,o)
theorem mem_pinsAt {fp:List Addr}{h:Heap}{b:Addr}{o:Obj}(hb:b∈fp)(e:h.get? b=some o):(b,o)∈pinsAt fp h:=List.mem_filterMap.mpr ⟨b,hb,by rw[e];rfl⟩
theorem of_pinsAt {fp:List Addr}{h:Heap}{p:Addr×Obj}(hp:p∈pinsAt fp h):p.1∈fp∧h.get? p.1=some p.2:=by
 obtain⟨b,hb,e⟩:=List.mem_filterMap.mp hp
 cases q:h.get? b with
 | none=>rw[q]at e;cases e
 | some o=>
  rw[q]at e
  have e':(b,o)=p:=Option.some.inj e
  subst e'
  exact⟨hb,q⟩
theorem Inv.pinned {pins:List (Addr×Obj)}{σ:St}{H:Hp}{s:Shared}{fp:List Addr}(I:Inv X pins σ H s)(hf:∀b∈fp,FpOk X pins H b)(ho:∀b∈fp,∃o,s.heap.get? b=some o∧∀v,o.data≠.cell v):Inv X (pins++pinsAt fp s.heap) σ H s:=
 I.pins_of fun p hp=>(List.mem_append.mp hp).elim (fun z=>I.pin p (List.mem_append_right _ z)) fun z=>by
  obtain⟨hb,e⟩:=of_pinsAt z
  obtain⟨f0,f1,f2,_⟩:=hf p.1 hb
  obtain⟨o,e',d⟩:=ho p.1 hb
  rw[e]at e';cases e'
  exact⟨e,f0,f1,f2,d⟩
theorem Inv.unpinned {pins pl:List (Addr×Obj)}{σ:St}{H:Hp}{s:Shared}(I:Inv X (pins++pl) σ H s):Inv X pins σ H s:=I.pins_of fun p hp=>I.pin p (List.mem_append_right _ (List.mem_append_left _ hp))
theorem ps_for {iter:Expr}{body:List Stmt}{wi:TI}{g:TG}{tb:TS}{pos:Pos}(hp:PassesOwn (model X.prog X.w) X.A X.env X.xe)(hc:X.calm=true)(hi:PI X tg iter wi)(hg:PG X tg g)(hb:PSs X body tb)
  (hs:∀x,foldedSetIterable iter X.env x=pure x:=by intro _;rfl):PS X (.For tg iter body [] pos) (tFor wi g tb):=by
 intro pins s σ H D I h
 refine wpAny_For (thn (hi pins s σ H _ I h) fun v s1 h1=>thn h1 fun itv s2 h2=>?_) hs
 obtain⟨it,fp,tn,J,H2,e,I2,T,st2,f2,W,⟨m0,w0⟩,turn⟩:=h2
 subst e
 have stat:∀ {H':Hp},(∀b∈fp,H' b=none)→∀b∈fp,FpOk X pins H' b:=fun hn b hb=>⟨hn b hb,(f2 b hb).2⟩
 refine codeAny_forLoop_any (fun n s'=>∃i σ' H',Inv X pins σ' H' s'∧tn i s'.heap∧(∀b∈fp,H' b=none)∧W i n σ' H') ?_ m0 ⟨0,σ,H2,I2,st2,fun b hb=>(f2 b hb).1,w0⟩
 rintro n s3 ⟨i,σ3,H3,I3,st3,fr3,w3⟩
 rcases turn i n σ3 H3 w3 with⟨stop,qn⟩|⟨go,N,hN,step⟩
 ·refine wpAny_passesOwn hp (thn (T.done X rfl rfl rfl hc i pins s3 σ3 H3 X.xe I3 (stat fr3) st3 stop) fun r s4 ⟨hr,I4⟩=>?_)
  subst hr
  exact wpAny_execs_nil ⟨σ3,H3,I4,qn⟩
 ·refine wpAny_passesOwn hp (thn (T.item X rfl rfl rfl hc i pins s3 σ3 H3 X.xe I3 (stat fr3) st3 go) fun r s4 ⟨u,hr,h4⟩=>?_)
  subst hr
  refine wpAny_passesOwn hp (thn h4 fun _ s5 ⟨x,H5,I5,r5,y5,st5,fr5⟩=>?_)
  have I5':=I5.pinned (stat fr5) (T.obj _ _ st5)
  refine wpAny_passesOwn hp (thn (hg _ s5 σ3 H5 x u _ I5' r5 (step x H5 y5)) fun _ s6 ⟨σ6,H6,I6,q6⟩=>?_)
  refine wpAny_passesOwn hp (thn (hb _ s6 σ6 H6 _ I6 q6) fun f s7 q7=>?_)
  have again:∀ {σ7:St} {H7:Hp},Inv X (pins++pinsAt fp s5.heap) σ7 H7 s7→N σ7 H7→∃m,m<n∧∃i σ' H',Inv X pins σ' H' s7∧tn i s7.heap∧(∀b∈fp,H' b=none)∧W i m σ' H':=fun {σ7 H7} I7 n7=>by
   obtain⟨m',hm,w7⟩:=hN σ7 H7 n7
   refine⟨m',hm,i+1,σ7,H7,I7.unpinned,T.keep _ _ _ st5 fun b hb o e=>(I7.pin (b,o) (List.mem_append_right _ (List.mem_append_right _ (mem_pinsAt hb e)))).1,fun b hb=>?_,w7⟩
   obtain⟨o,e,d⟩:=T.obj _ _ st5 b hb
   exact(I7.pin (b,o) (List.mem_append_right _ (List.mem_append_right _ (mem_pinsAt hb e)))).2.1
  cases f with
  | next=>obtain⟨σ7,H7,I7,n7⟩:=q7;exact again I7 n7
  | cont=>obtain⟨σ7,H7,I7,n7⟩:=q7;exact again I7 n7
  | brk=>obtain⟨σ7,H7,I7,q7⟩:=q7;exact⟨σ7,H7,I7.unpinned,q7⟩
  | ret v=>obtain⟨x7,σ7,H7,I7,r7,q7⟩:=q7;exact⟨x7,σ7,H7,I7.unpinned,r7,q7⟩
end
theorem for_range {lo:Int}{n:Nat}{g:TG}{tb:TS}{D:Ends}{σ:St}{H:Hp}(Pv:Nat→St→Hp→Prop)(h0:Pv 0 σ H)
  (hs:∀i σ H,i<n→Pv i σ H→g (.int (lo+i)) σ H fun σ2 H2=>tb { D with nx:=Pv (i+1),ct:=Pv (i+1),bk:=D.nx } σ2 H2) (hd:∀σ H,Pv n σ H→D.nx σ H):
  ∃W:Nat→Nat→St→Hp→Prop,(∃m,W 0 m σ H)∧∀i m σ H,W i m σ H →
   ((Itr lo n).stop i H∧D.nx σ H)∨((Itr lo n).go i H∧∃N:St→Hp→Prop,(∀σ' H',N σ' H'→∃m',m'<m∧W (i+1) m' σ' H')∧∀x H',(Itr lo n).yld i H x H'→g x σ H' fun σ2 H2=>tb { D with nx:=N,ct:=N,bk:=D.nx } σ2 H2):=by
 refine⟨fun i m σ H=>m=n-i∧i≤n∧Pv i σ H,⟨n,by simp,Nat.zero_le _,h0⟩,?_⟩
 rintro i m σ H ⟨rfl,hi,p⟩
 by_cases hlt:i<n
 ·refine .inr ⟨hlt,Pv (i+1),fun σ' H' p'=>⟨n-(i+1),by omega,rfl,hlt,p'⟩,fun x H' y=>?_⟩
  obtain⟨e,y⟩:=y
  subst e y
  exact hs i σ _ hlt p
 ·have e:i=n:=by omega
  subst e
  exact .inl ⟨Nat.le_refl _,hd σ H p⟩
abbrev R2:=V→V→Hp→VK→Prop
def OpR (X:Cx)(f:Value→Value→Sem Value)(r:R2):Prop:=
 ∀(pins:List (Addr×Obj)) (s:Shared) (σ:St) (H:Hp) (x y:V) (v u:Value) (Q:VK),Inv X pins σ H s→RelV x v→RelV y u→r x y H Q →
  wpAny (model X.prog X.w) X.A (f v u) (EP X pins σ Q) X.xe s
def UnR (X:Cx)(f:Value→Sem Value)(r:V→Hp→VK→Prop):Prop:=
 ∀(pins:List (Addr×Obj)) (s:Shared) (σ:St) (H:Hp) (x:V) (v:Value) (Q:VK),Inv X pins σ H s→RelV x v→r x H Q →
  wpAny (model X.prog X.w) X.A (f v) (EP X pins σ Q) X.xe s
def CallR (X:Cx)(f:Value)(r:List V→Hp→VK→Prop):Prop:=
 ∀(pins:List (Addr×Obj)) (s:Shared) (σ:St) (H:Hp) (xs:List V) (us:List Value) (Q:VK),Inv X pins σ H s→Vals xs us→r xs H Q →
  wpAny (model X.prog X.w) X.A (call f us) (EP X pins σ Q) X.xe s
def TruR (X:Cx)(r:V→Hp→(Bool→Hp→Prop)→Prop):Prop:=
 ∀(pins:List (Addr×Obj)) (s:Shared) (σ:St) (H:Hp) (x:V) (v:Value) (Q:Bool→Hp→Prop),Inv X pins σ H s→RelV x v→r x H Q →
  wpAny (model X.prog X.w) X.A (truthy v) (TP X pins σ Q) X.xe s
def tOp (r:R2)(ta tb:TE):TE:=fun σ H Q=>ta σ H fun x H1=>tb σ H1 fun y H2=>r x y H2 Q
def tUn (r:V→Hp→VK→Prop)(ta:TE):TE:=fun σ H Q=>ta σ H fun x H1=>r x H1 Q
def rI (C:Int→Int→Prop)(g:Int→Int→V):R2:=fun x y H Q=>∃i j,x=.int i∧y=.int j∧C i j∧Q (g i j) H
def rI0 (g:Int→Int→V):R2:=fun x y H Q=>∃i j,x=.int i∧y=.int j∧Q (g i j) H
def rU (g:Int→V):V→Hp→VK→Prop:=fun x H Q=>∃i,x=.int i∧Q (g i) H
section
variable {X:Cx}{a b c:Expr}{ta tb tc:TE}{pos:Pos}
theorem binT (ha:PE X a ta)(hb:PE X b tb){pins:List (Addr×Obj)}{s:Shared}{σ:St}{H:Hp}{R:V→V→Hp→Prop}(I:Inv X pins σ H s)
  (h:ta σ H fun x H1=>tb σ H1 fun y H2=>R x y H2) {Q:Value→Shared→Prop} {f:Value→Value→Sem Value}
  (hf:∀v u s2 x y H2,Inv X pins σ H2 s2→RelV x v→RelV y u→R x y H2→wpAny (model X.prog X.w) X.A (f v u) Q X.xe s2):
  wpAny (model X.prog X.w) X.A (eval a X.env) (fun v s₁=>wpAny (model X.prog X.w) X.A (eval b X.env) (fun u s₂=>wpAny (model X.prog X.w) X.A (f v u) Q X.xe s₂) X.xe s₁) X.xe s:=by
 refine thn (ha pins s σ H _ I h) fun v s1 ⟨x,H1,I1,r1,q1⟩=>?_
 refine thn (hb pins s1 σ H1 _ I1 q1) fun u s2 ⟨y,H2,I2,r2,q2⟩=>?_
 exact hf v u s2 x y H2 I2 r1 r2 q2
theorem pe_op {op:Operator}{r:R2}(ho:OpR X (binaryOp op) r)(ha:PE X a ta)(hb:PE X b tb):PE X (.BinOp a op b pos) (tOp r ta tb):=by
 intro pins s σ H Q I h
 exact wpAny_BinOp (binT ha hb I h fun v u s2 x y H2 I2 rx ry q=>ho pins s2 σ H2 x y v u Q I2 rx ry q)
theorem pe_un {op:UnaryOp}{r:V→Hp→VK→Prop}(ho:UnR X (unaryOp op) r)(ha:PE X a ta):PE X (.UnaryOp op a pos) (tUn r ta):=by
 intro pins s σ H Q I h
 exact UnaryOp_ (thn (ha pins s σ H _ I h) fun v s1 ⟨x,H1,I1,r1,q1⟩=>ho pins s1 σ H1 x v Q I1 r1 q1)
theorem opI {f:Value→Value→Sem Value}{C:Int→Int→Prop}{g:Int→Int→Int}
  (rule:∀(i j:Int) (t u:Tok) (s:Shared) (Q:Value→Shared→Prop) (E:Value→Shared→Prop),C i j→Q (.int (g i j) s.toks) { s with toks:=s.toks+1 }→wpAny (model X.prog X.w) X.A (f (.int i t) (.int j u)) Q E s):
  OpR X f (rI C fun i j=>.int (g i j)):=by
 intro pins s σ H x y v u Q I rx ry h
 obtain⟨i,j,rfl,rfl,hc,q⟩:=h
 obtain⟨t,rfl⟩:=rx
 obtain⟨t',rfl⟩:=ry
 exact rule i j t t' s _ _ hc ⟨.int (g i j),H,I.tok _,⟨_,rfl⟩,q⟩
theorem opI0 {f:Value→Value→Sem Value}{g:Int→Int→Int}
  (rule:∀(i j:Int) (t u:Tok) (s:Shared) (Q:Value→Shared→Prop) (E:Value→Shared→Prop),Q (.int (g i j) s.toks) { s with toks:=s.toks+1 }→wpAny (model X.prog X.w) X.A (f (.int i t) (.int j u)) Q E s):
  OpR X f (rI0 fun i j=>.int (g i j)):=by
 intro pins s σ H x y v u Q I rx ry h
 obtain⟨i,j,rfl,rfl,q⟩:=h
 obtain⟨t,rfl⟩:=rx
 obtain⟨t',rfl⟩:=ry
 exact rule i j t t' s _ _ ⟨.int (g i j),H,I.tok _,⟨_,rfl⟩,q⟩
theorem opB0 {f:Value→Value→Sem Value}{g:Int→Int→Bool}
  (rule:∀(i j:Int) (t u:Tok) (s:Shared) (Q:Value→Shared→Prop) (E:Value→Shared→Prop),Q (.bool (g i j)) s→wpAny (model X.prog X.w) X.A (f (.int i t) (.int j u)) Q E s):
  OpR X f (rI0 fun i j=>.bl (g i j)):=by
 intro pins s σ H x y v u Q I rx ry h
 obtain⟨i,j,rfl,rfl,q⟩:=h
 obtain⟨t,rfl⟩:=rx
 obtain⟨t',rfl⟩:=ry
 exact rule i j t t' s _ _ ⟨.bl (g i j),H,I,rfl,q⟩
def CDiv (i j:Int):Prop:=0<j∧j<1073741824
def CPow (i j:Int):Prop:=0≤j∧j≤1000000∧i.natAbs<2 ^ 64
def CMul (i j:Int):Prop:=(-(2 ^ 64)<i∧i<2 ^ 64)∨(-(2 ^ 64)<j∧j<2 ^ 64)
theorem CMul.ok {i j:Int}(h:CMul i j):IntMulOk i j:=by
 rcases h with⟨h1,h2⟩|⟨h1,h2⟩
 ·exact .of_left (intBits_le_64 h1 h2)
 ·exact .of_right (intBits_le_64 h1 h2)
theorem op_add:OpR X (binaryOp .Add) (rI0 fun i j=>.int (i+j)):=opI0 fun _ _ _ _ _ _ _ q=>add_int q
theorem op_sub:OpR X (binaryOp .Sub) (rI0 fun i j=>.int (i-j)):=opI0 fun _ _ _ _ _ _ _ q=>sub_int q
theorem op_mul:OpR X (binaryOp .Mult) (rI CMul fun i j=>.int (i*j)):=opI fun _ _ _ _ _ _ _ hc q=>mul_int q hc.ok
theorem op_fdiv:OpR X (binaryOp .FloorDiv) (rI CDiv fun i j=>.int (i/j)):=opI fun i j _ _ _ _ _ hc q=>by
 have h1:(0:Int)<j:=hc.1
 have h2:j<1073741824:=hc.2
 exact floordiv_int (by omega) (by rw[Int.fdiv_eq_ediv_of_nonneg i (by omega)];exact q) (.inl (PyProof.noPylong_small (by omega)))
theorem op_mod:OpR X (binaryOp .Mod) (rI (fun _ j=>0<j) fun i j=>.int (i % j)):=opI fun i j _ _ _ _ _ hc q=>by
 have h1:(0:Int)<j:=hc
 exact mod_int' (by omega) (by rw[Int.fmod_eq_emod_of_nonneg i (by omega)];exact q)
theorem op_pow:OpR X (binaryOp .Pow) (rI CPow fun i j=>.int (i ^ j.toNat)):=opI fun _ _ _ _ _ _ _ hc q=>pow_int_small hc.1 hc.2.1 hc.2.2 q
theorem unI {f:Value→Sem Value}{g:Int→Int}
  (rule:∀(i:Int) (t:Tok) (s:Shared) (Q:Value→Shared→Prop) (E:Value→Shared→Prop),Q (.int (g i) s.toks) { s with toks:=s.toks+1 }→wpAny (model X.prog X.w) X.A (f (.int i t)) Q E s):
  UnR X f (rU fun i=>.int (g i)):=by
 intro pins s σ H x v Q I rx h
 obtain⟨i,rfl,q⟩:=h
 obtain⟨t,rfl⟩:=rx
 exact rule i t s _ _ ⟨.int (g i),H,I.tok _,⟨_,rfl⟩,q⟩
theorem un_neg:UnR X (unaryOp .USub) (rU fun i=>.int (-i)):=unI fun _ _ _ _ _ q=>neg_int q
end
def scal:V→V→Bool
 | .non,.non=>true | .non,.int _=>true | .int _,.non=>true | .non,.bl _=>true | .bl _,.non=>true | .non,.str _=>true | .str _,.non=>true
 | .int _,.int _=>true | .bl _,.bl _=>true | .str _,.str _=>true | .byt _,.byt _=>true
 | .int _,.str _=>true | .str _,.int _=>true | .bl _,.str _=>true | .str _,.bl _=>true
 | _,_=>false
def rEq:R2:=fun x y H Q=>scal x y=true∧Q (.bl (decide (x=y))) H
def rNe:R2:=fun x y H Q=>scal x y=true∧Q (.bl (!decide (x=y))) H
theorem dec_int {i j:Int}:decide (V.int i=V.int j)=(i == j):=by
 rw[Bool.eq_iff_iff]
 simp
theorem dec_bl {i j:Bool}:decide (V.bl i=V.bl j)=(i == j):=by
 rw[Bool.eq_iff_iff]
 simp
theorem dec_str {i j:Str}:decide (V.str i=V.str j)=(i == j):=by
 rw[Bool.eq_iff_iff]
 simp
theorem dec_byt {i j:Array UInt8}:decide (V.byt i=V.byt j)=(i.toList == j.toList):=by
 rw[Bool.eq_iff_iff]
 cases i
 cases j
 simp
section
variable {X:Cx}{a b c:Expr}{ta tb tc:TE}{pos:Pos}
theorem fin_bl {pins:List (Addr×Obj)}{σ:St}{H:Hp}{s:Shared}{Q:VK}{k k':Bool}(I:Inv X pins σ H s)(q:Q (.bl k) H)(e:k=k'):EP X pins σ Q (.bool k') s:=by
 subst e
 exact⟨.bl k,H,I,rfl,q⟩
theorem op_eq:OpR X (compareOp .Eq) rEq:=by
 intro pins s σ H x y v u Q I rx ry h
 obtain⟨hs,q⟩:=h
 cases x with
 | non=>
  cases rx
  cases y with
  | non=>cases ry;exact PySem.EqNone.eq_none_none (fin_bl I q (by simp))
  | bl j=>cases ry;exact PySem.EqNone.eq_none_bool (fin_bl I q (by simp))
  | int j=>obtain⟨t',rfl⟩:=ry;exact PySem.EqNone.eq_none_int (fin_bl I q (by simp))
  | str j=>obtain⟨t',rfl⟩:=ry;exact PySem.EqNone.eq_none_str (fin_bl I q (by simp))
  | _=>exact absurd (show false=true from hs) Bool.false_ne_true
 | bl i=>
  cases rx
  cases y with
  | non=>cases ry;exact PySem.EqNone.eq_bool_none (fin_bl I q (by simp))
  | bl j=>cases ry;exact eq_bool (fin_bl I q dec_bl)
  | str j=>obtain⟨t',rfl⟩:=ry;exact PySem.EqMixed.eq_bool_str (fin_bl I q (by simp))
  | _=>exact absurd (show false=true from hs) Bool.false_ne_true
 | int i=>
  obtain⟨t,rfl⟩:=rx
  cases y with
  | non=>cases ry;exact PySem.EqNone.eq_int_none (fin_bl I q (by simp))
  | int j=>obtain⟨t',rfl⟩:=ry;exact eq_int (fin_bl I q dec_int)
  | str j=>obtain⟨t',rfl⟩:=ry;exact PySem.EqMixed.eq_int_str (fin_bl I q (by simp))
  | _=>exact absurd (show false=true from hs) Bool.false_ne_true
 | str i=>
  obtain⟨t,rfl⟩:=rx
  cases y with
  | non=>cases ry;exact PySem.EqNone.eq_str_none (fin_bl I q (by simp))
  | bl j=>cases ry;exact PySem.EqMixed.eq_str_bool (fin_bl I q (by simp))
  | int j=>obtain⟨t',rfl⟩:=ry;exact PySem.EqMixed.eq_str_int (fin_bl I q (by simp))
  | str j=>obtain⟨t',rfl⟩:=ry;exact eq_str (fin_bl I q dec_str)
  | _=>exact absurd (show false=true from hs) Bool.false_ne_true
 | byt i=>
  obtain⟨t,rfl⟩:=rx
  cases y with
  | byt j=>obtain⟨t',rfl⟩:=ry;exact PySem.W.eq_bytes (fin_bl I q dec_byt)
  | _=>exact absurd (show false=true from hs) Bool.false_ne_true
 | _=>cases y<;>exact absurd (show false=true from hs) Bool.false_ne_true
theorem op_ne:OpR X (compareOp .NotEq) rNe:=by
 intro pins s σ H x y v u Q I rx ry h
 obtain⟨hs,q⟩:=h
 cases x with
 | non=>
  cases rx
  cases y with
  | non=>cases ry;exact PySem.EqNone.ne_none_none (fin_bl I q (by simp))
  | bl j=>cases ry;exact PySem.EqNone.ne_none_bool (fin_bl I q (by simp))
  | int j=>obtain⟨t',rfl⟩:=ry;exact PySem.EqNone.ne_none_int (fin_bl I q (by simp))
  | str j=>obtain⟨t',rfl⟩:=ry;exact PySem.EqNone.ne_none_str (fin_bl I q (by simp))
  | _=>exact absurd (show false=true from hs) Bool.false_ne_true
 | bl i=>
  cases rx
  cases y with
  | non=>cases ry;exact PySem.EqNone.ne_bool_none (fin_bl I q (by simp))
  | bl j=>cases ry;exact ne_bool (fin_bl I q (congrArg not dec_bl))
  | str j=>obtain⟨t',rfl⟩:=ry;exact PySem.EqMixed.ne_bool_str (fin_bl I q (by simp))
  | _=>exact absurd (show false=true from hs) Bool.false_ne_true
 | int i=>
  obtain⟨t,rfl⟩:=rx
  cases y with
  | non=>cases ry;exact PySem.EqNone.ne_int_none (fin_bl I q (by simp))
  | int j=>obtain⟨t',rfl⟩:=ry;exact ne_int (fin_bl I q (congrArg not dec_int))
  | str j=>obtain⟨t',rfl⟩:=ry;exact PySem.EqMixed.ne_int_str (fin_bl I q (by simp))
  | _=>exact absurd (show false=true from hs) Bool.false_ne_true
 | str i=>
  obtain⟨t,rfl⟩:=rx
  cases y with
  | non=>cases ry;exact PySem.EqNone.ne_str_none (fin_bl I q (by simp))
  | bl j=>cases ry;exact PySem.EqMixed.ne_str_bool (fin_bl I q (by simp))
  | int j=>obtain⟨t',rfl⟩:=ry;exact PySem.EqMixed.ne_str_int (fin_bl I q (by simp))
  | str j=>obtain⟨t',rfl⟩:=ry;exact ne_str (fin_bl I q (congrArg not dec_str))
  | _=>exact absurd (show false=true from hs) Bool.false_ne_true
 | byt i=>
  obtain⟨t,rfl⟩:=rx
  cases y with
  | byt j=>obtain⟨t',rfl⟩:=ry;exact PySem.W.ne_bytes (fin_bl I q (congrArg not dec_byt))
  | _=>exact absurd (show false=true from hs) Bool.false_ne_true
 | _=>cases y<;>exact absurd (show false=true from hs) Bool.false_ne_true
theorem op_lt:OpR X (compareOp .Lt) (rI0 fun i j=>.bl (decide (i<j))):=opB0 fun _ _ _ _ _ _ _ q=>lt_int q
theorem op_le:OpR X (compareOp .LtE) (rI0 fun i j=>.bl (decide (i≤j))):=opB0 fun _ _ _ _ _ _ _ q=>le_int q
theorem op_gt:OpR X (compareOp .Gt) (rI0 fun i j=>.bl (decide (j<i))):=opB0 fun _ _ _ _ _ _ _ q=>gt_int q
theorem op_in_str:OpR X (compareOp .In) (fun x y H Q=>∃i j,x=.str i∧y=.str j∧Q (.bl (!(Builtin.Str.occurrences j i 0 j.length 1).isEmpty)) H):=by
 intro pins s σ H x y v u Q I rx ry h
 obtain⟨i,j,rfl,rfl,q⟩:=h
 obtain⟨t,rfl⟩:=rx
 obtain⟨t',rfl⟩:=ry
 exact in_str (fin_bl I q rfl)
theorem op_isN:OpR X (compareOp .Is) (fun x y H Q=>y=.non∧Q (.bl (decide (x=.non))) H):=by
 intro pins s σ H x y v u Q I rx ry h
 obtain⟨rfl,q⟩:=h
 cases ry
 refine is_none_gen (fin_bl I q ?_)
 cases x<;>first
  | (cases rx;rfl)
  | (obtain⟨t,rfl⟩:=rx;rfl)
theorem op_notN:OpR X (compareOp .IsNot) (fun x y H Q=>y=.non∧Q (.bl (!decide (x=.non))) H):=by
 intro pins s σ H x y v u Q I rx ry h
 obtain⟨rfl,q⟩:=h
 cases ry
 refine isnot_none_gen (fin_bl I q ?_)
 cases x<;>first
  | (cases rx;rfl)
  | (obtain⟨t,rfl⟩:=rx;rfl)
theorem op_notin_str:OpR X (compareOp .NotIn) (fun x y H Q=>∃i j,x=.str i∧y=.str j∧Q (.bl (!(!(Builtin.Str.occurrences j i 0 j.length 1).isEmpty))) H):=by
 intro pins s σ H x y v u Q I rx ry h
 obtain⟨i,j,rfl,rfl,q⟩:=h
 obtain⟨t,rfl⟩:=rx
 obtain⟨t',rfl⟩:=ry
 exact notIn_str (fin_bl I q rfl)
theorem nomark (b:Expr){op:CmpOp}(h:op≠.In:=by decide)(h2:op≠.NotIn:=by decide):behindInMarks op b=false:=by
 have e1:(op == CmpOp.In)=false:=by cases op<;>first | rfl | exact absurd rfl h
 have e2:(op == CmpOp.NotIn)=false:=by cases op<;>first | rfl | exact absurd rfl h2
 cases b<;>simp[behindInMarks,e1,e2]
theorem pe_cmpR {op:CmpOp}{r:R2}(ho:OpR X (compareOp op) r)(ha:PE X a ta)(hb:PE X b tb)(hm:behindInMarks op b=false):PE X (.Compare a [op] [b] pos) (tOp r ta tb):=by
 intro pins s σ H Q I h
 exact wpAny_Compare1 (binT ha hb I h fun v u s2 x y H2 I2 rx ry q=>ho pins s2 σ H2 x y v u Q I2 rx ry q) hm
def tTest (t:TE):TT:=fun σ H Q=>t σ H fun x H'=>∃k,x=.bl k∧Q k H'
theorem pt_cmpR {op:CmpOp}{r:R2}(ho:OpR X (compareOp op) r)(ha:PE X a ta)(hb:PE X b tb)(hm:behindInMarks op b=false):PT X (.Compare a [op] [b] pos) (tTest (tOp r ta tb)):=by
 intro pins s σ H Q I h
 refine wpAny_isTrue_Compare1 (thn (ha pins s σ H _ I h) fun v s1 ⟨x,H1,I1,r1,q1⟩=>thn (hb pins s1 σ H1 _ I1 q1) fun u s2 ⟨y,H2,I2,r2,q2⟩=>
  thn (ho pins s2 σ H2 x y v u _ I2 r1 r2 q2) fun c s3 ⟨z,H3,I3,r3,k,e,q3⟩=>?_) hm
 subst e
 cases r3
 exact wpAny_truthy_bool ⟨H3,I3,q3⟩
def tChain (r r':R2)(ta tb tc:TE):TE:=fun σ H Q=>ta σ H fun x H1=>tb σ H1 fun y H2=>r x y H2 fun z H3=>∃k,z=.bl k ∧
 (if k=true then tc σ H3 fun w' H4=>r' y w' H4 Q else Q (.bl false) H3)
def TruV (K:PySem.W.Frag)(x:V)(H:Hp)(k:Bool):Prop:=
 match x with
 | .non=>k=false
 | .bl b=>k=b
 | .int i=>k=(i != 0)
 | .str y=>y.length≤sizeLine∧k=((y.length:Int) != 0)
 | .byt y=>y.size≤sizeLine∧k=((y.size:Int) != 0)
 | .ref p=>(∃xs,SqL K H p xs∧k=!xs.isEmpty)∨(∃xs,SqT K H p xs∧k=!xs.isEmpty)∨∃kvs,H p=some (.dK kvs)∧k=!kvs.isEmpty
 | _=>False
theorem isEmpty_kv {κ:Type}{kvs:List (κ×V)}{vs:List (κ×Value)}(r:KV kvs vs):(!vs.isEmpty)=!kvs.isEmpty:=by
 cases r<;>rfl
theorem isEmpty_of {xs:List V}{its:List Value}(r:Vals xs its):(!its.toArray.isEmpty)=!xs.isEmpty:=by
 cases r<;>simp
theorem line63:(sizeLine:Nat)<2 ^ 63:=by rw[sizeLine_eq];decide
theorem tru_ok:TruR X (fun x H Q=>∃k,TruV X.K x H k∧Q k H):=by
 intro pins s σ H x v Q I rx h
 obtain⟨k,e,q⟩:=h
 have hl:=line63
 have hs:sizeLine=16777216:=sizeLine_eq
 cases x with
 | non=>
  cases rx
  have e':k=false:=e
  subst e'
  exact truthy_none ⟨H,I,q⟩
 | bl b=>
  cases rx
  have e':k=b:=e
  subst e'
  exact wpAny_truthy_bool ⟨H,I,q⟩
 | int i=>
  obtain⟨t,rfl⟩:=rx
  have e':k=(i != 0):=e
  subst e'
  exact PySem.P.truthy_int ⟨H,I,q⟩
 | str y=>
  obtain⟨t,rfl⟩:=rx
  obtain⟨hy,e'⟩:y.length≤sizeLine∧k=((y.length:Int) != 0):=e
  subst e'
  exact PySem.P.truthy_str (by omega) ⟨H,I.tok _,q⟩
 | byt y=>
  obtain⟨t,rfl⟩:=rx
  obtain⟨hy,e'⟩:y.size≤sizeLine∧k=((y.size:Int) != 0):=e
  subst e'
  exact PySem.W.truthy_bytes (by omega) ⟨H,I.tok _,q⟩
 | ref p=>
  cases rx
  have e':(∃xs,SqL X.K H p xs∧k=!xs.isEmpty)∨(∃xs,SqT X.K H p xs∧k=!xs.isEmpty)∨∃kvs,H p=some (.dK kvs)∧k=!kvs.isEmpty:=e
  rcases e' with⟨xs,hx,e'⟩|⟨xs,hx,e'⟩|⟨kvs,hx,e'⟩
  ·subst e'
   obtain⟨its,r,pl,hz⟩:=I.list hx
   have hlen:=r.length
   exact wpAny_truthy_list pl.isList (by simp only[List.size_toArray];omega) ⟨H,I.tok _,by rw[isEmpty_of r];exact q⟩
  ·subst e'
   obtain⟨its,r,pl,hz⟩:=I.tuple hx
   have hlen:=r.length
   exact truthy_tuple pl (by simp only[List.size_toArray];omega) ⟨H,I.tok _,by rw[isEmpty_of r];exact q⟩
  ·subst e'
   obtain⟨hz,hS,vs,r,m⟩:kvs.length≤sizeLine∧(p == sysModules)=false∧∃vs,KV kvs vs∧s.heap.DictOf (mixKind X.prog X.w) p vs:=I.hok p _ hx
   have hlen:kvs.length=vs.length:=Paired.length r
   exact wpAny_truthy_dict hS m (by omega) ⟨H,I.tok _,by rw[isEmpty_kv r];exact q⟩
 | _=>exact(show False from e).elim
theorem op_add_str:OpR X (binaryOp .Add) (fun x y H Q=>∃i j,x=.str i∧y=.str j∧i.length+j.length≤sizeLine∧Q (.str (i++j)) H):=by
 intro pins s σ H x y v u Q I rx ry h
 obtain⟨i,j,rfl,rfl,hz,q⟩:=h
 obtain⟨t,rfl⟩:=rx
 obtain⟨t',rfl⟩:=ry
 exact add_str (fun t' tk=>⟨.str (i++j),H,I.tok _,⟨_,rfl⟩,q⟩) hz
theorem vals1 {x:V}{us:List Value}(r:Vals [x] us):∃u,us=[u]∧RelV x u:=by
 cases r with
 | cons r1 r2=>cases r2;exact⟨_,rfl,r1⟩
theorem vals2 {x y:V}{us:List Value}(r:Vals [x,y] us):∃u w',us=[u,w']∧RelV x u∧RelV y w':=by
 cases r with
 | cons r1 r2=>
  cases r2 with
  | cons r3 r4=>cases r4;exact⟨_,_,rfl,r1,r3⟩
theorem call_max2 (hc:X.calm=true):CallR X (.builtin "max") (fun xs H Q=>∃i j,xs=[.int i,.int j]∧Q (.int (if j>i then j else i)) H):=by
 intro pins s σ H xs us Q I r h
 obtain⟨i,j,rfl,q⟩:=h
 obtain⟨u,w',rfl,⟨t,rfl⟩,⟨t',rfl⟩⟩:=vals2 r
 refine max_two_ints (I.ok.hd hc) fun h' tk k=>⟨_,H,I.kept k,?_,q⟩
 by_cases hj:j>i
 ·rw[if_pos hj,if_pos hj];exact⟨_,rfl⟩
 ·rw[if_neg hj,if_neg hj];exact⟨_,rfl⟩
theorem call_min2 (hc:X.calm=true):CallR X (.builtin "min") (fun xs H Q=>∃i j,xs=[.int i,.int j]∧Q (.int (if j<i then j else i)) H):=by
 intro pins s σ H xs us Q I r h
 obtain⟨i,j,rfl,q⟩:=h
 obtain⟨u,w',rfl,⟨t,rfl⟩,⟨t',rfl⟩⟩:=vals2 r
 refine min_two_ints (I.ok.hd hc) fun h' tk k=>⟨_,H,I.kept k,?_,q⟩
 by_cases hj:j<i
 ·rw[if_pos hj,if_pos hj];exact⟨_,rfl⟩
 ·rw[if_neg hj,if_neg hj];exact⟨_,rfl⟩
def LenV (K:PySem.W.Frag)(x:V)(H:Hp)(n:Nat):Prop:=
 match x with
 | .str y=>y.length≤sizeLine∧n=y.length
 | .byt y=>y.size≤sizeLine∧n=y.size
 | .ref p=>(∃xs,SqL K H p xs∧n=xs.length)∨∃xs,SqT K H p xs∧n=xs.length
 | _=>False
theorem call_len:CallR X (.builtin "len") (fun xs H Q=>∃x n,xs=[x]∧LenV X.K x H n∧Q (.int n) H):=by
 intro pins s σ H xs us Q I r h
 obtain⟨x,n,rfl,e,q⟩:=h
 obtain⟨u,rfl,rx⟩:=vals1 r
 have hl:=line63
 have hs:sizeLine=16777216:=sizeLine_eq
 cases x with
 | str y=>
  obtain⟨t,rfl⟩:=rx
  obtain⟨hy,e'⟩:y.length≤sizeLine∧n=y.length:=e
  subst e'
  exact len_str (by omega) ⟨.int _,H,I.tok _,⟨_,rfl⟩,q⟩
 | byt y=>
  obtain⟨t,rfl⟩:=rx
  obtain⟨hy,e'⟩:y.size≤sizeLine∧n=y.size:=e
  subst e'
  exact PySem.W.len_bytes (by omega) ⟨.int _,H,I.tok _,⟨_,rfl⟩,q⟩
 | ref p=>
  cases rx
  have e':(∃xs,SqL X.K H p xs∧n=xs.length)∨∃xs,SqT X.K H p xs∧n=xs.length:=e
  rcases e' with⟨xs,hx,e'⟩|⟨xs,hx,e'⟩
  ·subst e'
   obtain⟨its,r',pl,hz⟩:=I.list hx
   have hlen:=r'.length
   exact Calls.call_len_list pl.isList (by simp only[List.size_toArray];omega) ⟨.int xs.length,H,I.tok _,⟨_,by simp only[List.size_toArray];rw[hlen]⟩,q⟩
  ·subst e'
   obtain⟨its,r',pl,hz⟩:=I.tuple hx
   have hlen:=r'.length
   exact len_tuple pl (by simp only[List.size_toArray];omega) ⟨.int xs.length,H,I.tok _,⟨_,by simp only[List.size_toArray];rw[hlen]⟩,q⟩
 | _=>exact(show False from e).elim
end
structure ObjM (h:Heap)(x dx C:Addr)(mA:Str→Option Value):Prop where
 obj:h.get? x=some (PySem.W.instObj C dx)
 ns:h.Ns1 dx mA
 ne:dx≠x
theorem lookIn_ns {h:Heap}{dx:Addr}{mA:Str→Option Value}(n:h.Ns1 dx mA):∃od,h.get? dx=some od∧∀name,PySem.W.lookIn name od=some (mA name):=by
 obtain⟨o,es,ep,ho,hd,hk,_,hm⟩:=n
 refine⟨o,ho,fun name=>?_⟩
 have e:=hm name
 unfold nsFind findBy at e
 rw[←Array.find?_toList]at e
 unfold PySem.W.lookIn
 rw[hd]
 dsimp only
 split
 ·rename_i y q
  rw[q]at e
  exact congrArg some e
 ·rename_i q
  rw[q]at e
  have a:es.toList.any (·.refKey)=false:=by
   rw[List.any_eq_false]
   intro y hy
   obtain⟨z,t,hkey⟩:=hk y (Array.mem_toList_iff.mp hy)
   simp[DictEntry.refKey,hkey]
  have a':¬es.toList.any (·.refKey)=true:=by rw[a];exact Bool.false_ne_true
  rw[if_neg a']
  exact congrArg some e
theorem ObjM.look {h:Heap}{x dx C:Addr}{mA:Str→Option Value}(I:ObjM h x dx C mA):∃od,PySem.W.InstAt h x (PySem.W.instObj C dx) C (some od)∧∀name,PySem.W.lookIn name od=some (mA name):=
 let ⟨od,ho,hl⟩:=lookIn_ns I.ns
 ⟨od,⟨I.obj,rfl,rfl,ho⟩,hl⟩
section
variable {prog:Program}{w:World}{A:Around}{E:Value→Shared→Prop}{s:Shared}{K:PySem.W.Frag}{x dx C f:Addr}{mA:Str→Option Value}{name:Str}{v:Value}
theorem get_map {expr:Bool}{Q:Value→Shared→Prop}(X:K.In s.heap)(I:ObjM s.heap x dx C mA)(hg:PySem.W.plainGet K C name=true)(hh:PySem.W.hasDictIn K C=true)
  (ha:PySem.W.findIn K (.ref C) name=some none) (hv:mA name=some v) (hv':PySem.W.handedIn v=true) (h:Q v { s with toks:=s.toks+1 }):
  wpAny (model prog w) A (getAttr (.ref x) name expr) Q E s:=by
 obtain⟨od,J,hl⟩:=I.look
 exact PySem.W.get_value X J (PySem.W.plainGet_of hg).1 (PySem.W.findObj_own hh ha rfl (by rw[hl,hv])) hv' h
theorem get_meth {pl:Sem Bool}{Q:Value×List Value→Shared→Prop}(X:K.In s.heap)(I:ObjM s.heap x dx C mA)(hg:PySem.W.plainGet K C name=true)
  (hf:PySem.W.findIn K (.ref C) name=some (some (.ref f))) (ht:PySem.W.isFn K (.ref f)=true) (hv:mA name=none) (h:Q (.ref f,[.ref x]) s):
  wpAny (model prog w) A (getMethod (.ref x) name pl) Q E s:=by
 obtain⟨od,J,hl⟩:=I.look
 exact PySem.W.method_fn X J (PySem.W.plainGet_of hg).1 (PySem.W.plainGet_of hg).2 hf (beq_iff_eq.mp ht) (by show (PySem.W.lookIn name od).map (·.isSome)=some false;rw[hl,hv];rfl) h
theorem set_map {ns:List Str}{Q:Unit→Shared→Prop}(X:K.In s.heap)(I:ObjM s.heap x dx C mA)
  (hs:PySem.W.findIn K (.ref C) "__setattr__"=some (some (.builtin "object.__setattr__"))) (hp:PySem.W.plainOver K C=true) (ht:PySem.W.takerIn K C name=some none) (hh:PySem.W.hasDictIn K C=true)
  (hw:PySem.Within mA ns) (hsz:ns.length≤sizeLine)
  (h:∀h',ObjM h' x dx C (fun y=>if y=name then some v else mA y)→Heap.SameBut dx s.heap h'→Q () { s with heap:=h',toks:=s.toks+2 }):
  wpAny (model prog w) A (setAttr (.ref x) name v) Q E s:=by
 obtain⟨od,J,hl⟩:=I.look
 refine PySem.W.set_plain X J hs (PySem.W.osa_open (s:={ s with toks:=s.toks+1 }) (r:=none) X J hp ht fun b=>?_)
 obtain⟨cd,hc,hd'⟩:=PySem.W.any_some hh
 have hx:s.heap.get? x=some ⟨.ref C,some dx,.plain,#[]⟩:=I.obj
 refine wpAny_bind (wpAny_pure (wpAny_bind (wpAny_bind (wpAny_loadPart hx (wpAny_bind (PySem.W.Looks.here (s:={ s with toks:=s.toks+1 }) (PySem.W.looks_clsIn X hc) ?_))))))
 rw[hd']
 refine wpAny_pure (a:=some dx) (wpAny_bind (wpAny_pure (wpAny_bind ?_)))
 refine wpAny_nsSet1 (s:={ s with toks:=s.toks+1 }) I.ns fun h' hn2 hs2=>?_
 obtain⟨oD,esD,epD,hoD,hdD,hcD⟩:=hn2.count (PySem.Within.cons name v hw)
 refine wpAny_bind (wpAny_lookBehind hoD (by rw[hdD];exact pastItsLine_dict (Nat.le_trans hcD (by rw[List.length_cons];omega))) ?_)
 exact wpAny_pure (h _ ⟨(hs2.2 _ (Ne.symm I.ne)).trans I.obj,hn2,I.ne⟩ hs2)
theorem make_map {R:Result→Shared→Prop}{vs:List Value}{kw:List (Str×Value)}(X:K.In s.heap)(hm:PySem.W.makesIn K C=true)
  (hi:PySem.W.findIn K (.ref C) "__init__"=some (some (.ref f))) (hf:PySem.W.typeIn K (.ref f)=some (.type "function"))
  (h:codeAny (model prog w) (A.under (.builtin "type.__call__" ⟨.ref C::vs,kw⟩)) (.call (.ref f) ⟨.ref (s.heap.objs.size+1)::vs,kw⟩) (PySem.W.InitBack (s.heap.objs.size+1) R)
   { s with heap:=(s.heap.push PySem.W.emptyDict).push (PySem.W.instObj C s.heap.objs.size) }):
  codeAny (model prog w) A (.call (.ref C) ⟨vs,kw⟩) R s:=by
 obtain⟨hh,g,d,t,os⟩:=s
 exact PySem.W.make_core (PySem.W.makes_of X hm) (PySem.W.looks_findIn X hi) (fun self=>PySem.W.bind_fn X self hf) (.inl rfl) h
end
def putF (f:Str)(v:V):List (Str×V)→List (Str×V)
 | []=>[(f,v)]
 | (g,x)::r=>if g=f then (g,v)::r else (g,x)::putF f v r
theorem lookup_putF (f g:Str)(v:V):∀fs:List (Str×V),(putF f v fs).lookup g=if g=f then some v else fs.lookup g
 | []=>by
  show List.lookup g [(f,v)]=_
  by_cases h:g=f
  ·have hb:(g == f)=true:=beq_iff_eq.mpr h
   simp only[List.lookup,hb,if_pos h]
  ·have hb:(g == f)=false:=beq_eq_false_iff_ne.mpr h
   simp only[List.lookup,hb,if_neg h]
 | (k,x)::r=>by
  have ih:=lookup_putF f g v r
  rw[show putF f v ((k,x)::r)=(if k=f then (k,v)::r else (k,x)::putF f v r) from rfl]
  by_cases hk:k=f
  ·rw[if_pos hk]
   by_cases h:g=k
   ·have hb:(g == k)=true:=beq_iff_eq.mpr h
    simp only[List.lookup,hb,if_pos (h.trans hk)]
   ·have hb:(g == k)=false:=beq_eq_false_iff_ne.mpr h
    simp only[List.lookup,hb,if_neg (fun e:g=f=>h (e.trans hk.symm))]
  ·rw[if_neg hk]
   by_cases h:g=k
   ·have hb:(g == k)=true:=beq_iff_eq.mpr h
    simp only[List.lookup,hb,if_neg (fun e:g=f=>hk (h.symm.trans e))]
   ·have hb:(g == k)=false:=beq_eq_false_iff_ne.mpr h
    simp only[List.lookup,hb]
    exact ih
theorem keys_putF (f:Str)(v:V):∀fs:List (Str×V),f∈(putF f v fs).map (·.1)∧∀g,g∈fs.map (·.1)→g∈(putF f v fs).map (·.1)
 | []=>⟨by simp[putF],fun g h=>by simp at h⟩
 | (k,x)::r=>by
  obtain⟨i1,i2⟩:=keys_putF f v r
  rw[show putF f v ((k,x)::r)=(if k=f then (k,v)::r else (k,x)::putF f v r) from rfl]
  by_cases hk:k=f
  ·rw[if_pos hk]
   subst hk
   exact⟨by simp,fun g h=>by simpa using h⟩
  ·rw[if_neg hk]
   refine⟨?_,fun g h=>?_⟩
   ·rw[List.map_cons]
    exact List.mem_cons_of_mem _ i1
   ·rw[List.map_cons]at h ⊢
    rcases List.mem_cons.mp h with e | e
    ·exact List.mem_cons.mpr (.inl e)
    ·exact List.mem_cons_of_mem _ (i2 g e)
theorem length_putF (f:Str)(v:V):∀fs:List (Str×V),(putF f v fs).length≤fs.length+1
 | []=>by simp[putF]
 | (k,x)::r=>by
  have ih:=length_putF f v r
  rw[show putF f v ((k,x)::r)=(if k=f then (k,v)::r else (k,x)::putF f v r) from rfl]
  by_cases hk:k=f
  ·rw[if_pos hk,List.length_cons,List.length_cons];omega
  ·rw[if_neg hk,List.length_cons,List.length_cons];omega
theorem RelO.some_of {v:V}{o:Option Value}(r:RelO (some v) o):∃u,o=some u∧RelV v u:=by
 cases o with
 | none=>exact(show False from r).elim
 | some u=>exact⟨u,rfl,r⟩
theorem RelO.none_of {o:Option Value}(r:RelO none o):o=none:=by
 cases o with
 | none=>rfl
 | some u=>exact(show False from r).elim
theorem handed_of {v:V}{u:Value}(r:RelV v u):PySem.W.handedIn u=true:=by
 cases v with
 | non=>cases (show u=Value.none from r);rfl
 | bl b=>cases (show u=Value.bool b from r);rfl
 | int i=>obtain⟨t,e⟩:=(show ∃t,u=Value.int i t from r);cases e;rfl
 | str x=>obtain⟨t,e⟩:=(show ∃t,u=Value.str x t from r);cases e;rfl
 | byt b=>obtain⟨t,e⟩:=(show ∃t,u=Value.bytes b t from r);cases e;rfl
 | flt b=>obtain⟨t,e⟩:=(show ∃t,u=Value.float b t from r);cases e;rfl
 | ref a=>cases (show u=Value.ref a from r);rfl
 | ty n=>cases (show u=Value.type n from r);rfl
section
variable {P:Program}{w:World}{H H':Hp}{h h':Heap}{a C dx:Addr}{fs fs':List (Str×V)}
theorem ins_get (hok:HOk P w H h)(e:H a=some (.ins C dx fs)):∃mA,ObjM h a dx C mA∧(∀f,RelO (fs.lookup f) (mA f))∧PySem.Within mA (fs.map (·.1))∧fs.length≤1000∧H dx=some (.own a):=by
 obtain⟨d,z,ne,ob,mA,n,r,q⟩:=(show ObjOk P w H h a (.ins C dx fs) from hok a _ e)
 exact⟨mA,⟨ob,n,ne⟩,r,q,z,d⟩
end
structure Cls (K:PySem.W.Frag)(C:Addr):Prop where
 pg:PySem.W.plainGet K C Str.empty=true
 hd:PySem.W.hasDictIn K C=true
 po:PySem.W.plainOver K C=true
 sa:PySem.W.findIn K (.ref C) "__setattr__"=some (some (.builtin "object.__setattr__"))
theorem Cls.get {K:PySem.W.Frag}{C:Addr}(c:Cls K C)(f:Str):PySem.W.plainGet K C f=true:=c.pg
def NoAttr (K:PySem.W.Frag)(C:Addr)(f:Str):Prop:=PySem.W.findIn K (.ref C) f=some none
theorem NoAttr.taker {K:PySem.W.Frag}{C:Addr}{f:Str}(n:NoAttr K C f):PySem.W.takerIn K C f=some none:=by
 unfold PySem.W.takerIn
 rw[show PySem.W.findIn K (.ref C) f=some none from n]
 rfl
structure Meth (K:PySem.W.Frag)(C:Addr)(m:Str)(f:Addr):Prop where
 at_:PySem.W.findIn K (.ref C) m=some (some (.ref f))
 fn:PySem.W.isFn K (.ref f)=true
 kp:PySem.W.keepIn K (.ref f)=true
section
variable {X:Cx}{pins:List (Addr×Obj)}{σ:St}{H:Hp}{s:Shared}{a C dx:Addr}{fs:List (Str×V)}{f:Str}{v:V}{A:Around}{E:Value→Shared→Prop}
theorem getattr_ok {b:Bool}{Q:Value→Shared→Prop}(I:Inv X pins σ H s)(e:H a=some (.ins C dx fs))(c:Cls X.K C)(n:NoAttr X.K C f)(l:fs.lookup f=some v)
  (h:∀u s',Inv X pins σ H s'→RelV v u→Q u s'):wpAny (model X.prog X.w) A (getAttr (.ref a) f b) Q E s:=by
 obtain⟨mA,O,r,_,_,_⟩:=ins_get I.hok e
 obtain⟨u,hu,ru⟩:=RelO.some_of (v:=v) (o:=mA f) (by rw[←l];exact r f)
 exact get_map I.kIn O (c.get f) c.hd n hu (handed_of ru) (h u _ (I.tok _) ru)
theorem getmeth_ok {m:Str}{g:Addr}{pl:Sem Bool}{Q:Value×List Value→Shared→Prop}(I:Inv X pins σ H s)(e:H a=some (.ins C dx fs))(c:Cls X.K C)(k:Meth X.K C m g)(l:fs.lookup m=none)
  (h:Q (.ref g,[.ref a]) s):wpAny (model X.prog X.w) A (getMethod (.ref a) m pl) Q E s:=by
 obtain⟨mA,O,r,_,_,_⟩:=ins_get I.hok e
 have hn:mA m=none:=RelO.none_of (by rw[←l];exact r m)
 exact get_meth I.kIn O (c.get m) k.at_ k.fn hn h
theorem setattr_ok {y:V}{u:Value}{Q:Unit→Shared→Prop}(I:Inv X pins σ H s)(e:H a=some (.ins C dx fs))(c:Cls X.K C)(n:NoAttr X.K C f)(hl:fs.length<1000)(ry:RelV y u)
  (h:∀s',Inv X pins σ (upd H a (.ins C dx (putF f y fs))) s'→Q () s'):wpAny (model X.prog X.w) A (setAttr (.ref a) f u) Q E s:=by
 obtain⟨mA,O,r,wi,_,ho⟩:=ins_get I.hok e
 have hz:(fs.map (·.1)).length≤sizeLine:=by rw[List.length_map,sizeLine_eq];omega
 refine set_map I.kIn O c.sa c.po n.taker c.hd wi hz fun h' O' sb=>h _ ?_
 have hd:∃o,h'.get? dx=some o:=let ⟨o,_,_,e',_⟩:=O'.ns;⟨o,e'⟩
 refine I.write (x:=a) (e:=dx) (by rw[e];exact True.intro) (.inr ho) (fun b q hb z=>(sb.2 b hb).trans z) hd ?_
 refine⟨by rw[upd_ne O.ne];exact ho,?_,O.ne,O'.obj,_,O'.ns,fun g=>?_,fun g hg=>?_⟩
 ·have:=length_putF f y fs;omega
 ·show RelO ((putF f y fs).lookup g) (if g=f then some u else mA g)
  rw[lookup_putF]
  by_cases q:g=f
  ·rw[if_pos q,if_pos q];exact ry
  ·rw[if_neg q,if_neg q];exact r g
 ·by_cases q:g=f
  ·rw[q];exact(keys_putF f y fs).1
  ·refine(keys_putF f y fs).2 g (wi g fun z=>hg ?_)
   show (if g=f then some u else mA g)=none
   rw[if_neg q];exact z
theorem Inv.made (I:Inv X pins σ H s):Inv X pins σ (upd (upd H s.heap.objs.size (.own (s.heap.objs.size+1))) (s.heap.objs.size+1) (.ins C s.heap.objs.size []))
  { s with heap:=(s.heap.push PySem.W.emptyDict).push (PySem.W.instObj C s.heap.objs.size) }:=by
 have e1:(s.heap.push PySem.W.emptyDict).get? s.heap.objs.size=some PySem.W.emptyDict:=Heap.get?_push_size s.heap rfl
 have e2:((s.heap.push PySem.W.emptyDict).push (PySem.W.instObj C s.heap.objs.size)).get? (s.heap.objs.size+1)=some (PySem.W.instObj C s.heap.objs.size):=by
  have:=Heap.get?_push_size (s.heap.push PySem.W.emptyDict) (o:=PySem.W.instObj C s.heap.objs.size) rfl
  rwa [Heap.size_push]at this
 have e3:(s.heap.push PySem.W.emptyDict).Ns s.heap.objs.size (fun _=>none):=⟨PySem.W.emptyDict,#[],_,e1,rfl,(fun e he=>absurd he (by simp)),fun _=>rfl⟩
 have I1:=I.laid (a:=s.heap.objs.size) (o:=.own (s.heap.objs.size+1)) (h':=s.heap.push PySem.W.emptyDict) (t':=s.toks) (fun b u q=>Heap.get?_push_of_some _ q) (Nat.le_refl _) ⟨_,e1⟩
 refine I1.laid (a:=s.heap.objs.size+1) (o:=.ins C s.heap.objs.size []) (t':=s.toks) (fun b u q=>Heap.get?_push_of_some _ q) (Nat.le_of_eq (Heap.size_push _ _)) ?_
 have ne:s.heap.objs.size≠s.heap.objs.size+1:=Nat.ne_of_lt (Nat.lt_succ_self _)
 refine⟨by rw[upd_ne ne,upd_same],Nat.zero_le _,ne,e2,fun _=>none,(Heap.Ns1.of_empty e3).at fun o q=>Heap.get?_push_of_some _ q,fun _=>True.intro,fun y hy=>absurd rfl hy⟩
theorem attr_of {prog:Program}{w:World}{env:Env}{e:Expr}{f:Str}{pos:Pos}{s:Shared}{Q:Value→Shared→Prop}(hb:attributeBase e f env (eval e env)=eval e env)
  (h:wpAny (model prog w) A (eval e env) (fun o s₁=>wpAny (model prog w) A (getAttr o f true) Q E s₁) E s):wpAny (model prog w) A (eval (.Attribute e f pos) env) Q E s:=
 Attribute_any_ h (by rw[arm_eval_Attribute,hb])
end
def tFld (K:PySem.W.Frag)(ta:TE)(f:Str):TE:=fun σ H Q=>ta σ H fun x H1=>∃a C dx fs v,x=.ref a∧H1 a=some (.ins C dx fs)∧Cls K C∧NoAttr K C f∧fs.lookup f=some v∧Q v H1
def sFld (K:PySem.W.Frag)(ta tv:TE)(f:Str):TS:=fun D σ H=>tv σ H fun y H1=>ta σ H1 fun x H2=>∃a C dx fs,x=.ref a∧H2 a=some (.ins C dx fs)∧Cls K C∧NoAttr K C f∧fs.length<1000 ∧
 D.nx σ (upd H2 a (.ins C dx (putF f y fs)))
section
variable {X:Cx}{o e value:Expr}{f:Str}{pos pos' tpos:Pos}{ta tv:TE}
theorem pe_fld (he:PE X e ta)(hb:attributeBase e f X.env (eval e X.env)=eval e X.env):PE X (.Attribute e f pos) (tFld X.K ta f):=by
 intro pins s σ H Q I h
 refine attr_of hb (thn (he pins s σ H _ I h) fun u s1 ⟨x,H1,I1,rx,a,C,dx,fs,v,ex,ea,c,n,l,q⟩=>?_)
 subst ex
 obtain rfl:u=Value.ref a:=rx
 exact getattr_ok I1 ea c n l fun u' s2 I2 ru=>⟨v,H1,I2,ru,q⟩
theorem ps_fld (ha:PE X o ta)(hv:PE X value tv)(hs:swapsWith value (some (.Attribute o f pos')) pos.line X.env=pure false):PS X (.Assign [.Attribute o f pos'] value pos) (sFld X.K ta tv f):=by
 intro pins s σ H D I h
 refine plainObj_wpAny_Assign_Attribute (thn (hv pins s σ H _ I h) fun u s1 ⟨y,H1,I1,ry,q⟩=>thn (ha pins s1 σ H1 _ I1 q) fun ov s2 ⟨x,H2,I2,rx,a,C,dx,fs,ex,ea,c,n,l,q2⟩=>?_) hs
 subst ex
 obtain rfl:ov=Value.ref a:=rx
 exact setattr_ok I2 ea c n l ry fun s3 I3=>⟨σ,_,I3,q2⟩
theorem methcall_of {pl:Sem Bool}{m:Str}{apos:Pos}{args:List Expr}{pins:List (Addr×Obj)}{s:Shared}{σ:St}{H:Hp}{Q:Value→Shared→Prop}{te:TE}(he:PE X e te)(I:Inv X pins σ H s)
  (h:te σ H fun x H1=>∃a C dx fs g,x=.ref a∧H1 a=some (.ins C dx fs)∧Cls X.K C∧Meth X.K C m g∧fs.lookup m=none ∧
   ∀s1,Inv X pins σ H1 s1→wpAny (model X.prog X.w) X.A (callWith pos (.ref g) [.ref a] (backTo pos (starEach args X.env)) (backToKw pos (keywordEach [] X.env))) Q X.xe s1)
  (ht:eval (.Call (.Attribute e m apos) args [] pos) X.env=(do
   let ov ←eval e X.env
   standAt apos.atName
   let (f,first) ←holding [ov] (getMethod ov m pl)
   callWith pos f first (backTo pos (starEach args X.env)) (backToKw pos (keywordEach [] X.env)))):
  wpAny (model X.prog X.w) X.A (eval (.Call (.Attribute e m apos) args [] pos) X.env) Q X.xe s:=by
 refine PySem.W.methodCall_KW (pl:=pl) (thn (he pins s σ H _ I h) fun u s1 ⟨x,H1,I1,rx,a,C,dx,fs,g,ex,ea,c,k,l,q⟩=>?_) ht
 subst ex
 obtain rfl:u=Value.ref a:=rx
 exact getmeth_ok I1 ea c k l (q s1 I1)
end
section
variable {X:Cx}{pins:List (Addr×Obj)}{σ:St}{H:Hp}{s:Shared}{A:Around}{E:Value→Shared→Prop}{Q:Value→Shared→Prop}{c:Value}{b:Bool}
inductive TyOf (K:PySem.W.Frag) (H:Hp):V→Value→Prop where
 | non:TyOf K H .non (.type "NoneType")
 | bl (x:Bool):TyOf K H (.bl x) (.type "bool")
 | int (i:Int):TyOf K H (.int i) (.type "int")
 | str (x:Str):TyOf K H (.str x) (.type "str")
 | flt (x:UInt64):TyOf K H (.flt x) (.type "float")
 | lst {a:Addr} {xs:List V} (e:H a=some (.lst xs)):TyOf K H (.ref a) (.type "list")
 | frz {a:Addr} {o:Obj} {xs:List V} (e:H a=some (.frz o (.lst xs))):TyOf K H (.ref a) (.type "list")
 | tup {a:Addr} {xs:List V} (e:H a=some (.tup xs)):TyOf K H (.ref a) (.type "tuple")
 | dK {a:Addr} {kvs:List (Key×V)} (e:H a=some (.dK kvs)):TyOf K H (.ref a) (.type "dict")
 | dT {a:Addr} {kvs:List (List Key×V)} (e:H a=some (.dT kvs)):TyOf K H (.ref a) (.type "dict")
 | ins {a C dx:Addr} {fs:List (Str×V)} (e:H a=some (.ins C dx fs)) (cl:Cls K C) (ha:PySem.W.findIn K (.ref C) "__class__"=some (some (.builtin "object.__class__")))
   (hn:PySem.W.specialIn K (.builtin "object.__class__") "__get__"=some (some (.builtin "getset_descriptor.__get__"))) (htk:PySem.W.takesIn K (.builtin "object.__class__")=some true)
   (hm:PySem.W.mroIn K C (.type "object")=some true):TyOf K H (.ref a) (.ref C)
theorem isinst_ok {x:V}{u t:Value}(I:Inv X pins σ H s)(rx:RelV x u)(ty:TyOf X.K H x t)(e:PySem.W.kitOne X.K t c=some b)(h:∀tk,Q (.bool b) { s with toks:=tk }):
  wpAny (model X.prog X.w) A (call (.builtin "isinstance") [u,c]) Q E s:=by
 cases ty with
 | non=>cases (show u=Value.none from rx);exact PySem.W.kia_one PySem.W.kitx_none I.kIn True.intro e (fun z=>nomatch z) h
 | bl y=>cases (show u=Value.bool y from rx);exact PySem.W.kia_one PySem.W.kitx_bool I.kIn True.intro e (fun z=>nomatch z) h
 | int i=>obtain⟨t,q⟩:=(show ∃t,u=Value.int i t from rx);cases q;exact PySem.W.kia_one PySem.W.kitx_int I.kIn True.intro e (fun z=>nomatch z) h
 | str y=>obtain⟨t,q⟩:=(show ∃t,u=Value.str y t from rx);cases q;exact PySem.W.kia_one PySem.W.kitx_str I.kIn True.intro e (fun z=>nomatch z) h
 | flt y=>obtain⟨t,q⟩:=(show ∃t,u=Value.float y t from rx);cases q;exact PySem.W.kia_one PySem.W.kitx_float I.kIn True.intro e (fun z=>nomatch z) h
 | @lst a xs ea=>
  cases (show u=Value.ref a from rx)
  obtain⟨_,_,n,_,h1⟩:=(show ObjOk X.prog X.w H s.heap a (.lst xs) from I.hok a _ ea)
  exact PySem.W.kia_one PySem.W.kitx_list I.kIn ⟨_,h1,rfl⟩ e (fun z=>nomatch z) h
 | @frz a ob xs ea=>
  cases (show u=Value.ref a from rx)
  obtain⟨_,_,_,n,_,h1⟩:=(show ObjOk X.prog X.w H s.heap a (.frz ob (.lst xs)) from I.hok a _ ea)
  exact PySem.W.kia_one PySem.W.kitx_list I.kIn ⟨_,h1,rfl⟩ e (fun z=>nomatch z) h
 | @tup a xs ea=>
  cases (show u=Value.ref a from rx)
  obtain⟨_,_,_,p⟩:=(show ObjOk X.prog X.w H s.heap a (.tup xs) from I.hok a _ ea)
  obtain⟨o,h1,h2,_⟩:=p
  exact PySem.W.kia_one PySem.W.kitx_tuple I.kIn ⟨o,h1,h2⟩ e (fun z=>nomatch z) h
 | @dK a kvs ea=>
  cases (show u=Value.ref a from rx)
  obtain⟨_,_,vs,_,p⟩:=(show ObjOk X.prog X.w H s.heap a (.dK kvs) from I.hok a _ ea)
  obtain⟨o,es,ep,h1,h2,_⟩:=p
  exact PySem.W.kia_one PySem.W.kitx_dict I.kIn ⟨o,h1,h2.1⟩ e (fun z=>nomatch z) h
 | @dT a kvs ea=>
  cases (show u=Value.ref a from rx)
  obtain⟨_,_,xs,_,o,es,ep,h1,h2,_⟩:=(show ObjOk X.prog X.w H s.heap a (.dT kvs) from I.hok a _ ea)
  exact PySem.W.kia_one PySem.W.kitx_dict I.kIn ⟨o,h1,h2.1⟩ e (fun z=>nomatch z) h
 | @ins a C dx fs ea cl ha hn htk hm=>
  cases (show u=Value.ref a from rx)
  obtain⟨mA,O,_⟩:=ins_get I.hok ea
  obtain⟨od,J,_⟩:=O.look
  exact PySem.W.kia_one (PySem.W.kitx_own (cl.get _) cl.hd ha hn htk hm) I.kIn J e (fun z=>nomatch z) h
end
structure Room (k:Nat)(A:Around):Prop where
 hd:A.handled=none
 dp:A.depth+3*k+5<recursionLimit
 un:A.units+16*k+200<cLine
theorem Room.mono {j k:Nat}{A:Around}(r:Room k A)(h:j≤k):Room j A:=⟨r.hd,by have:=r.dp;omega,by have:=r.un;omega⟩
theorem Room.deeper {k:Nat}{A:Around}(r:Room (k+1) A)(env:Env):Room k (A.deeper env):=
 ⟨r.hd,by have:=r.dp;show A.depth+1+3*k+5<_;omega,by have:=r.un;show A.units+3+16*k+200<_;omega⟩
theorem make_depth {A:Around}{C:Addr}{us:List Value}{kw:List (Str×Value)}:(A.under (.builtin "type.__call__" ⟨.ref C::us,kw⟩)).depth=A.depth+1:=by
 first | rfl | simp[Around.under,Code.weight,Code.isCreation,Code.isGuard,Code.isCaller,Code.frames,Code.isFrame,guardIds]
theorem make_units {A:Around}{C:Addr}{us:List Value}{kw:List (Str×Value)}:(A.under (.builtin "type.__call__" ⟨.ref C::us,kw⟩)).units=A.units+1:=by
 first | rfl | simp[Around.under,Code.cUnits,Code.frames,Code.isFrame]
theorem Room.make {k:Nat}{A:Around}(r:Room (k+1) A)(C:Addr)(us:List Value)(kw:List (Str×Value)):Room k (A.under (.builtin "type.__call__" ⟨.ref C::us,kw⟩)):=
 ⟨r.hd,by have:=r.dp;rw[make_depth];omega,by have:=r.un;rw[make_units];omega⟩
theorem Room.depth {k:Nat}{A:Around}(r:Room k A):A.depth<recursionLimit:=by have:=r.dp;omega
theorem Room.units {k:Nat}{A:Around}(r:Room k A):A.units+64<cLine:=by have:=r.un;omega
def tNil:TA:=fun _ H Q=>Q [] H
def tCons (ta:TE)(tr:TA):TA:=fun σ H Q=>ta σ H fun x H1=>tr σ H1 fun xs H2=>Q (x::xs) H2
section
variable {X:Cx}{e:Expr}{es:List Expr}{te:TE}{t:TA}{pos:Pos}
theorem pa_nil:PA X [] tNil:=fun _ _ _ _ H Q I h=>Calls.spliced_nil ⟨[],H,I,.nil,h⟩
theorem pa_cons (ha:PE X e te)(hr:PA X es t)(hs:starEach (e::es) X.env=(false,eval e X.env)::starEach es X.env:=by rfl):PA X (e::es) (tCons te t):=by
 intro pos pins s σ H Q I h
 rw[hs]
 show wpAny _ _ (spliced ((false,eval e X.env)::backTo pos (starEach es X.env))) _ _ s
 refine Calls.spliced_cons (thn (ha pins s σ H _ I h) fun u s1 ⟨x,H1,I1,r1,q1⟩=>?_)
 exact thn (hr pos pins s1 σ H1 _ I1 q1) fun us s2 ⟨xs,H2,I2,r2,q2⟩=>⟨x::xs,H2,I2,.cons r1 r2,q2⟩
def tTup (t:TA):TE:=fun σ H Q=>t σ H fun xs H1=>xs.length≤sizeLine∧∀p,H1 p=none→Q (.ref p) (upd H1 p (.tup xs))
def tLst (t:TA):TE:=fun σ H Q=>t σ H fun xs H1=>xs.length≤sizeLine∧∀p,H1 p=none→Q (.ref p) (upd H1 p (.lst xs))
theorem pe_tup {x1}(h:PA X es t):PE X (.Tuple es x1 pos) (tTup t):=by
 intro pins s σ H Q I hq
 refine wpAny_Tuple_spliced (thn (h pos pins s σ H _ I hq) fun us s1 ⟨xs,H1,I1,r,z,q⟩=>⟨by rw[←r.length];exact z,?_⟩)
 have hf:H1 s1.heap.objs.size=none:=I1.hok.fresh (Nat.le_refl _)
 refine⟨.ref s1.heap.objs.size,upd H1 s1.heap.objs.size (.tup xs),I1.laid (t':=s1.toks) (fun b u e=>Heap.get?_push_of_some _ e) (Nat.le_refl _) ?_,rfl,q _ hf⟩
 exact⟨z,us,r,⟨_,Heap.get?_push_size _ rfl,rfl,_,rfl⟩⟩
theorem pe_lst (h:PA X es t):PE X (.List es pos) (tLst t):=by
 intro pins s σ H Q I hq
 refine wpAny_List_spliced (thn (h pos pins s σ H _ I hq) fun us s1 ⟨xs,H1,I1,r,z,q⟩=>⟨by rw[←r.length];exact z,?_⟩)
 have hf:H1 s1.heap.objs.size=none:=I1.hok.fresh (Nat.le_refl _)
 refine⟨.ref s1.heap.objs.size,upd H1 s1.heap.objs.size (.lst xs),I1.laid (t':=s1.toks) (fun b u e=>Heap.get?_push_of_some _ e) (Nat.le_refl _) ?_,rfl,q _ hf⟩
 exact⟨z,us,0,r,Heap.get?_push_size _ rfl⟩
end
abbrev Sp:=List V→Hp→VK→XK→Prop
abbrev CXT:=List Env→Hp→Shared→XK→Value→Shared→Prop
structure Env0 (P:Program)(w:World)(K:PySem.W.Frag)(mg:Str→Option Value)(base:Heap)(A:Around)(outer:List Env)(s:Shared)(H:Hp):Prop where
 frames:A.frames=some outer
 mod:Mod K mg base
 bs:∀b o,base.get? b=some o→s.heap.get? b=some o∧H b=none
 bsz:base.objs.size≤s.heap.objs.size
 funs:s.heap.FunFrames base outer
 frf:∀b∈frs outer,H b=none
 hok:HOk P w H s.heap
 bare:AllBare s.gens
def CE (outer:List Env)(P:Program)(w:World)(H:Hp)(s:Shared)(Q:VK)(u:Value)(s':Shared):Prop:=
 ∃v H',s'.os=s.os∧AllBare s'.gens∧Un (frs outer) [] H H' s.heap s'.heap∧HOk P w H' s'.heap∧RelV v u∧Q v H'
def CR (CX:CXT)(outer:List Env)(P:Program)(w:World)(H:Hp)(s:Shared)(Q:VK)(E:XK)(r:Result)(s':Shared):Prop:=
 match r with
 | .ok (.ret u)=>CE outer P w H s Q u s'
 | .ok _=>False
 | .error e=>CX outer H s E e s'
structure FnOk (P:Program)(w:World)(K:PySem.W.Frag)(mg:Str→Option Value)(base:Heap)(CX:CXT)(k:Nat)(f:Addr)(fd:FuncData)(ps:List Str)(sp:Sp):Prop where
 len:∀vs H Q E,sp vs H Q E→vs.length=ps.length
 run:∀(A:Around) (outer:List Env) (s:Shared) (H:Hp) (args:Args) (us:List Value) (vs:List V) (Q:VK) (E:XK),Room k A→Env0 P w K mg base A outer s H→BindsTo s fd args (ps.zip us)→Vals vs us→sp vs H Q E →
  codeAny (model P w) A (.call (.ref f) args) (CR CX outer P w H s Q E) s
theorem Env0.make {P:Program}{w:World}{K:PySem.W.Frag}{mg:Str→Option Value}{base:Heap}{A:Around}{outer:List Env}{s:Shared}{H:Hp}(e:Env0 P w K mg base A outer s H)(C:Addr)(us:List Value)(kw:List (Str×Value)):
  Env0 P w K mg base (A.under (.builtin "type.__call__" ⟨.ref C::us,kw⟩)) outer s H:=⟨by first | exact e.frames | (simpa [Around.under,Code.envs,Code.isFrame,pushEnvs] using e.frames),e.mod,e.bs,e.bsz,e.funs,e.frf,e.hok,e.bare⟩
section
variable {X:Cx}{pins:List (Addr×Obj)}{σ:St}{H:Hp}{s s':Shared}
theorem Inv.env0 (I:Inv X pins σ H s):Env0 X.prog X.w X.K X.mg X.base X.A X.stack s H:=
 ⟨I.ok.frames,I.ok.mod,I.bs,Nat.le_trans I.ok.bsz I.sz,I.stack,I.stkFree,I.hok,I.bare⟩
theorem Inv.after {Q:VK}{u:Value}(I:Inv X pins σ H s)(h:CE X.stack X.prog X.w H s Q u s'):EP X pins σ Q u s':=by
 obtain⟨v,H',os,bare,un,hok,r,q⟩:=h
 obtain⟨hh,g,d,t,os'⟩:=s'
 obtain rfl:os'=s.os:=os
 exact⟨v,H',I.call (h':=hh) (g':=g) (d':=d) (t':=t) (ch:=[]) un hok bare (fun b z=>absurd z (by simp)),r,q⟩
end
def tCall (sp:Sp)(dvs:List V)(E:XK)(t:TA):TE:=fun σ H Q=>t σ H fun vs H1=>sp (vs++dvs) H1 Q E
def tMeth (C:Addr)(m:Str)(sp:Sp)(dvs:List V)(E:XK)(ta:TE)(t:TA):TE:=fun σ H Q=>ta σ H fun x H1=>∃a dx fs,x=.ref a∧H1 a=some (.ins C dx fs)∧fs.lookup m=none ∧
 t σ H1 fun vs H2=>sp (x::(vs++dvs)) H2 Q E
def tMake (C:Addr)(sp:Sp)(dvs:List V)(E:XK)(t:TA):TE:=fun σ H Q=>t σ H fun vs H1=>∀x dx,H1 x=none→H1 dx=none→dx≠x →
 sp (.ref x::(vs++dvs)) (upd (upd H1 dx (.own x)) x (.ins C dx [])) (fun v H2=>v=.non∧Q (.ref x) H2) E
def Binds (K:PySem.W.Frag)(fd:FuncData)(ps:List Str)(ds:List Value):Prop:=
 ∀(s:Shared) (us:List Value),K.In s.heap→(us++ds).length=ps.length→BindsTo s fd ⟨us,[]⟩ (ps.zip (us++ds))
theorem Binds.all {K:PySem.W.Frag}{fd:FuncData}{ps:List Str}(h:∀us:List Value,us.length=ps.length→bindArgs fd ⟨us,[]⟩=pure (ps.zip us)):Binds K fd ps []:=fun s us _ hl=>by
 rw[List.append_nil]at hl ⊢
 exact .of_eq (h us hl)
def Passes (CX:CXT)(X:Cx)(E:XK):Prop:=∀(pins:List (Addr×Obj)) (σ:St) (H:Hp) (s:Shared) (e:Value) (s':Shared),Inv X pins σ H s→CX X.stack H s E e s'→X.xe e s'
section
variable {X:Cx}{CX:CXT}{k:Nat}{f C:Addr}{fd:FuncData}{ps:List Str}{sp:Sp}{dvs:List V}{ds:List Value}{E:XK}{x m:Str}{p pos apos:Pos}{e o:Expr}{es:List Expr}{ta:TE}{t:TA}
theorem run_fn {pins:List (Addr×Obj)}{σ:St}{H:Hp}{s:Shared}{Q:VK}{us:List Value}{vs:List V}(F:FnOk X.prog X.w X.K X.mg X.base CX k f fd ps sp)(hr:Room k X.A)(hb:Binds X.K fd ps ds)(hd:Vals dvs ds)(hx:Passes CX X E)
  (I:Inv X pins σ H s) (r:Vals vs us) (h:sp (vs++dvs) H Q E):wpAny (model X.prog X.w) X.A (call (.ref f) us) (EP X pins σ Q) X.xe s:=by
 have r2:Vals (vs++dvs) (us++ds):=r.append hd
 have hl:(us++ds).length=ps.length:=by rw[←r2.length];exact F.len _ _ _ _ h
 refine wpAny_call (codeAny_mono (F.run X.A X.stack s H ⟨us,[]⟩ (us++ds) (vs++dvs) Q E hr I.env0 (hb s us I.kIn hl) r2 h) fun r s' hq=>?_)
 cases r with
 | error e=>exact hx pins σ H s e s' I hq
 | ok fl=>
  cases fl with
  | ret u=>exact I.after hq
  | next=>exact False.elim hq
  | brk=>exact False.elim hq
  | cont=>exact False.elim hq
theorem pe_call (F:FnOk X.prog X.w X.K X.mg X.base CX k f fd ps sp)(hr:Room k X.A)(hg:Gl X x)(hm:X.mg x=some (.ref f))(hk:PySem.W.keepIn X.K (.ref f)=true)(hb:Binds X.K fd ps ds)(hd:Vals dvs ds)(hx:Passes CX X E)
  (ha:PA X (e::es) t) (hdb:(x == ("__debug__":Str))=false:=by decide) (he:starEach (e::es) X.env=(false,eval e X.env)::starEach es X.env:=by rfl) (hpl:(backTo pos (starEach es X.env)).any (·.1)=false:=by rfl):
  PE X (.Call (.Name x p) (e::es) [] pos) (tCall sp dvs E t):=by
 intro pins s σ H Q I h
 refine wpAny_Call_Name_kw (ld_glob I hg hm ?_ hdb)
 refine PySem.W.callWith_K (h₀:=X.base) I.ok.mod.kin hk (thn (ha pos pins s σ H _ I h) fun us s1 ⟨vs,H1,I1,r,q⟩=>⟨I1.kIn,?_⟩) he hpl
 exact run_fn F hr hb hd hx I1 r q
theorem pe_meth {pl:Sem Bool}(he:PE X o ta)(c:Cls X.K C)(hm:Meth X.K C m f)(F:FnOk X.prog X.w X.K X.mg X.base CX k f fd ps sp)(hr:Room k X.A)(hb:Binds X.K fd ps ds)(hd:Vals dvs ds)(hx:Passes CX X E)(ha:PA X (e::es) t)
  (hst:starEach (e::es) X.env=(false,eval e X.env)::starEach es X.env:=by rfl) (hpl:(backTo pos (starEach es X.env)).any (·.1)=false:=by rfl)
  (ht:eval (.Call (.Attribute o m apos) (e::es) [] pos) X.env=(do
   let ov ←eval o X.env
   standAt apos.atName
   let (f,first) ←holding [ov] (getMethod ov m pl)
   callWith pos f first (backTo pos (starEach (e::es) X.env)) (backToKw pos (keywordEach [] X.env))):=by rfl):
  PE X (.Call (.Attribute o m apos) (e::es) [] pos) (tMeth C m sp dvs E ta t):=by
 intro pins s σ H Q I h
 refine PySem.W.methodCall_KW (pl:=pl) (thn (he pins s σ H _ I h) fun u s1 ⟨x,H1,I1,rx,a,dx,fs,ex,ea,l,q⟩=>?_) ht
 subst ex
 obtain rfl:u=Value.ref a:=rx
 refine getmeth_ok I1 ea c hm l ?_
 refine PySem.W.callWith_K (first:=[.ref a]) (h₀:=X.base) I.ok.mod.kin hm.kp (thn (ha pos pins s1 σ H1 _ I1 q) fun us s2 ⟨vs,H2,I2,r,q2⟩=>⟨I2.kIn,?_⟩) hst hpl
 exact run_fn (us:=.ref a::us) (vs:=.ref a::vs) F hr hb hd hx I2 (.cons rfl r) q2
theorem pe_meth0 {pl:Sem Bool}(he:PE X o ta)(c:Cls X.K C)(hm:Meth X.K C m f)(F:FnOk X.prog X.w X.K X.mg X.base CX k f fd ps sp)(hr:Room k X.A)(hb:Binds X.K fd ps ds)(hd:Vals dvs ds)(hx:Passes CX X E)
  (ht:eval (.Call (.Attribute o m apos) [] [] pos) X.env=(do
   let ov ←eval o X.env
   standAt apos.atName
   let (f,first) ←holding [ov] (getMethod ov m pl)
   callWith pos f first (backTo pos (starEach [] X.env)) (backToKw pos (keywordEach [] X.env))):=by rfl):
  PE X (.Call (.Attribute o m apos) [] [] pos) (tMeth C m sp dvs E ta tNil):=by
 intro pins s σ H Q I h
 refine PySem.W.methodCall_KW (pl:=pl) (thn (he pins s σ H _ I h) fun u s1 ⟨x,H1,I1,rx,a,dx,fs,ex,ea,l,q⟩=>?_) ht
 subst ex
 obtain rfl:u=Value.ref a:=rx
 refine getmeth_ok I1 ea c hm l ?_
 exact PySem.W.callWith_K0 (first:=[.ref a]) I1.kIn hm.kp (run_fn (us:=[.ref a]) (vs:=[.ref a]) F hr hb hd hx I1 (.cons rfl .nil) q)
structure Mk (K:PySem.W.Frag)(C f:Addr):Prop where
 makes:PySem.W.makesIn K C=true
 init:PySem.W.findIn K (.ref C) "__init__"=some (some (.ref f))
 fn:PySem.W.isFn K (.ref f)=true
 kp:PySem.W.keepIn K (.ref C)=true
theorem run_make {pins:List (Addr×Obj)}{σ:St}{H:Hp}{s:Shared}{Q:VK}{us:List Value}{vs:List V}(M:Mk X.K C f)(F:FnOk X.prog X.w X.K X.mg X.base CX k f fd ps sp)(hr:Room (k+1) X.A)(hb:Binds X.K fd ps ds)(hd:Vals dvs ds)
  (hx:Passes CX X E) (I:Inv X pins σ H s) (r:Vals vs us)
  (h:∀x dx,H x=none→H dx=none→dx≠x→sp (.ref x::(vs++dvs)) (upd (upd H dx (.own x)) x (.ins C dx [])) (fun v H2=>v=.non∧Q (.ref x) H2) E):
  wpAny (model X.prog X.w) X.A (call (.ref C) us) (EP X pins σ Q) X.xe s:=by
 have hq:=h (s.heap.objs.size+1) s.heap.objs.size (I.hok.fresh (Nat.le_succ _)) (I.hok.fresh (Nat.le_refl _)) (Nat.ne_of_lt (Nat.lt_succ_self _))
 have I2:=Inv.made (C:=C) I
 have r2:Vals (V.ref (s.heap.objs.size+1)::(vs++dvs)) (Value.ref (s.heap.objs.size+1)::(us++ds)):=.cons rfl (r.append hd)
 have hl:(Value.ref (s.heap.objs.size+1)::us++ds).length=ps.length:=by
  have e:=r2.length
  rw[F.len _ _ _ _ hq]at e
  exact e.symm
 refine wpAny_call (make_map (f:=f) I.kIn M.makes M.init (beq_iff_eq.mp M.fn) (codeAny_mono (F.run _ X.stack _ _ ⟨Value.ref (s.heap.objs.size+1)::us,[]⟩ (Value.ref (s.heap.objs.size+1)::(us++ds)) _ _ E (hr.make C us [])
  (I2.env0.make C us []) (hb _ (Value.ref (s.heap.objs.size+1)::us) I2.kIn hl) r2 hq) fun r s' hq'=>?_))
 cases r with
 | error e=>exact hx pins σ _ _ e s' I2 hq'
 | ok fl=>
  cases fl with
  | ret u=>
   obtain⟨v,H',I3,rv,ev,q3⟩:=I2.after hq'
   subst ev
   exact⟨rv,⟨V.ref (s.heap.objs.size+1),H',I3,rfl,q3⟩⟩
  | next=>exact False.elim hq'
  | brk=>exact False.elim hq'
  | cont=>exact False.elim hq'
theorem pe_make (M:Mk X.K C f)(F:FnOk X.prog X.w X.K X.mg X.base CX k f fd ps sp)(hr:Room (k+1) X.A)(hg:Gl X x)(hm:X.mg x=some (.ref C))(hb:Binds X.K fd ps ds)(hd:Vals dvs ds)(hx:Passes CX X E)
  (ha:PA X (e::es) t) (hdb:(x == ("__debug__":Str))=false:=by decide) (he:starEach (e::es) X.env=(false,eval e X.env)::starEach es X.env:=by rfl) (hpl:(backTo pos (starEach es X.env)).any (·.1)=false:=by rfl):
  PE X (.Call (.Name x p) (e::es) [] pos) (tMake C sp dvs E t):=by
 intro pins s σ H Q I h
 refine wpAny_Call_Name_kw (ld_glob I hg hm ?_ hdb)
 refine PySem.W.callWith_K (h₀:=X.base) I.ok.mod.kin M.kp (thn (ha pos pins s σ H _ I h) fun us s1 ⟨vs,H1,I1,r,q⟩=>⟨I1.kIn,?_⟩) he hpl
 exact run_make M F hr hb hd hx I1 r q
end
section
variable {X:Cx}{CX:CXT}{k:Nat}{f C:Addr}{fd:FuncData}{ps ks:List Str}{sp:Sp}{E:XK}{x m:Str}{p pos apos kpos:Pos}{e o:Expr}{es:List Expr}{kws:List Keyword}{te ta:TE}{t tk:TA}{nm:Option Str}
variable {g:List Value→List Value→List Value}{gV:List V→List V→List V}
end
structure FnScope (N P:List Str)(sc:Scope):Prop where
 kind:sc.kind=.function
 co:sc.isCoroutine=false
 gen:sc.isGenerator=false
 nd:N.Nodup
 pre:N.take P.length=P
 par:∀x∈P,sc.names.lookup x=some .local∨sc.names.lookup x=some .cell
 nofree:∀y∈sc.names,y.2≠.free
theorem bindL_out {kindOf:Str→Option NameKind}{x:Str}:∀ {binds:List (Str×Value)} {m:Str→Option Value},(∀v,(x,v)∉binds)→bindL kindOf binds m x=m x
 | [],_,_=>rfl
 | (n,v)::r,m,h=>by
  unfold bindL
  rw[bindL_out fun w hw=>h w (List.mem_cons_of_mem _ hw)]
  split
  ·have:x≠n:=by rintro rfl;exact h v List.mem_cons_self
   simp[this]
  ·rfl
theorem bindC_out {kindOf:Str→Option NameKind}{x:Str}:∀ {binds:List (Str×Value)} {m:Str→Option Value},(∀v,(x,v)∉binds)→bindC kindOf binds m x=m x
 | [],_,_=>rfl
 | (n,v)::r,m,h=>by
  unfold bindC
  rw[bindC_out fun w hw=>h w (List.mem_cons_of_mem _ hw)]
  split
  ·rfl
  ·have:x≠n:=by rintro rfl;exact h v List.mem_cons_self
   simp[this]
theorem bindL_get {kindOf:Str→Option NameKind}{x:Str}{v:Value}:∀ {P:List Str} {vs:List Value} {i:Nat} {m:Str→Option Value},P.Nodup→P[i]?=some x→vs[i]?=some v→kindOf x=some .local →
  bindL kindOf (P.zip vs) m x=some v
 | [],_,_,_,_,h,_,_=>by simp at h
 | _::_,[],_,_,_,_,h,_=>by simp at h
 | p::P,w::vs,0,m,nd,h1,h2,hk=>by
  simp at h1 h2;subst h1;subst h2
  show bindL kindOf ((p,w)::P.zip vs) m p=_
  unfold bindL
  rw[bindL_out fun v hv=>(List.nodup_cons.mp nd).1 (List.of_mem_zip hv).1,if_pos hk]
  simp
 | p::P,w::vs,i+1,m,nd,h1,h2,hk=>by
  show bindL kindOf ((p,w)::P.zip vs) m x=_
  unfold bindL
  exact bindL_get (i:=i) (List.nodup_cons.mp nd).2 (by simpa using h1) (by simpa using h2) hk
theorem bindC_get {kindOf:Str→Option NameKind}{x:Str}{v:Value}:∀ {P:List Str} {vs:List Value} {i:Nat} {m:Str→Option Value},P.Nodup→P[i]?=some x→vs[i]?=some v→kindOf x≠some .local →
  bindC kindOf (P.zip vs) m x=some v
 | [],_,_,_,_,h,_,_=>by simp at h
 | _::_,[],_,_,_,_,h,_=>by simp at h
 | p::P,w::vs,0,m,nd,h1,h2,hk=>by
  simp at h1 h2;subst h1;subst h2
  show bindC kindOf ((p,w)::P.zip vs) m p=_
  unfold bindC
  rw[bindC_out fun v hv=>(List.nodup_cons.mp nd).1 (List.of_mem_zip hv).1,if_neg hk]
  simp
 | p::P,w::vs,i+1,m,nd,h1,h2,hk=>by
  show bindC kindOf ((p,w)::P.zip vs) m x=_
  unfold bindC
  exact bindC_get (i:=i) (List.nodup_cons.mp nd).2 (by simpa using h1) (by simpa using h2) hk
def start (N:List Str)(vs:List V):St:=vs.map some++List.replicate (N.length-vs.length) none
def cxOf (CX:CXT)(P:Program)(w:World)(K:PySem.W.Frag)(mg:Str→Option Value)(base:Heap)(N:List Str)(qual:Str)(scope:Scope)(f:Addr)(cd:Value)(A:Around)(outer:List Env)(s:Shared)(H:Hp)(E:XK):Cx where
 prog:=P
 w:=w
 K:=K
 mg:=mg
 base:=base
 A:=A.deeper (envOfC qual scope s.heap.objs.size f cd)
 N:=N
 s₀:=s
 H₀:=H
 env:=envOfC qual scope s.heap.objs.size f cd
 outer:=outer
 stack:=envOfC qual scope s.heap.objs.size f cd::outer
 ex:=[]
 calm:=true
 fn:=fun _=>true
 pn:=[]
 xe:=fun e s'=>wpAny (model P w) (A.deeper (envOfC qual scope s.heap.objs.size f cd)) (leaving (envOfC qual scope s.heap.objs.size f cd) e) (fun _ s''=>CX outer H s E e s'') (fun e' s''=>CX outer H s E e' s'') s'
theorem cell_has {sc:Scope}{n:Nat}{x:Str}(h:sc.names.lookup x=some .cell):∃c,(cellsFrom n sc.names []).lookup x=some c:=by
 have q:=PySem.W.cellsFrom_some sc.names n [] (.inl h)
 exact Option.isSome_iff_exists.mp q
theorem inv_start {CX:CXT}{P:Program}{w:World}{K:PySem.W.Frag}{mg:Str→Option Value}{base:Heap}{N ps:List Str}{qual:Str}{scope:Scope}{f:Addr}{cd:Value}{A:Around}{outer:List Env}{s s1:Shared}{H:Hp}{E:XK}{us:List Value}{vs:List V}
  (S:FnScope N ps scope) (hd:A.handled=none) (e0:Env0 P w K mg base A outer s H) (hl:vs.length=ps.length) (r:Vals vs us)
  (x:InCallC s s.heap.objs.size (bindL (envOfC qual scope s.heap.objs.size f cd).kindOf (ps.zip us) fun _=>none) (cellsFrom (s.heap.objs.size+1) scope.names []) (bindC (envOfC qual scope s.heap.objs.size f cd).kindOf (ps.zip us) fun _=>none) s1):
  Inv (cxOf CX P w K mg base N qual scope f cd A outer s H E) [] (start N vs) H s1:=by
 have hpl:ps.length≤N.length:=by have:=congrArg List.length S.pre;rw[List.length_take]at this;omega
 obtain⟨h1,tk,rfl,hk⟩:=x.done
 have noA:∀b:Addr,b∉(cxOf CX P w K mg base N qual scope f cd A outer s H E).ex:=fun b z=>absurd (show b∈([]:List Addr) from z) (by simp)
 refine⟨⟨e0.mod,S.kind,rfl,rfl,Nat.le_refl _,fun y z c h1 h2=>?_,fun y hy=>?_,fun y c _ h=>?_,fun _=>hd,Around.frames_deeper e0.frames,.inr ⟨rfl,rfl⟩,fun b z=>absurd z (noA b),e0.bs,e0.bsz,fun b _ _=>noA b,fun b z=>absurd z (noA b),e0.funs,e0.frf⟩,
  rfl,e0.bare,Un.kept hk,⟨_,x.toInCall.ns,fun i y v h1 h2 h3=>?_⟩,fun y c h=>⟨_,x.cell y c h⟩,e0.hok.fresh (Nat.le_refl _),fun y c h=>?_,fun p hp=>absurd (show p∈([]:List (Addr×Obj)) from hp) (by simp),e0.hok.kept hk,?_⟩
 ·exact name_of_addr x.apart (PySem.mem_of_lookup h1) (PySem.mem_of_lookup h2)
 ·have hy:scope.names.lookup y=some .cell∨scope.names.lookup y=some .free:=hy
  rcases hy with hy | hy
  ·exact cell_has hy
  ·exact absurd rfl (S.nofree _ (PySem.mem_of_lookup hy))
 ·exact Nat.le_of_lt (x.above y c (PySem.mem_of_lookup h))
 ·have hi:i<vs.length:=by
   unfold start at h2
   by_cases hi:i<vs.length
   ·exact hi
   ·rw[List.getElem?_append_right (by simpa using hi)]at h2
    rw[List.getElem?_replicate]at h2
    split at h2<;>cases h2
  have ha:vs[i]?=some v:=by
   unfold start at h2
   rw[List.getElem?_append_left (by simpa using hi),List.getElem?_map]at h2
   cases e:vs[i]? with
   | none=>rw[e]at h2;cases h2
   | some a=>rw[e]at h2;cases h2;rfl
  obtain⟨u,hu,rv⟩:=r.get ha
  have hp:ps[i]?=some y:=by
   rw[←S.pre,List.getElem?_take_of_lt (by omega)];exact h1
  have ndP:ps.Nodup:=by rw[←S.pre];exact S.nd.sublist (List.take_sublist _ _)
  refine⟨u,rv,?_⟩
  rcases S.par y (List.mem_of_getElem? hp) with k | k
  ·exact .inl ⟨k,bindL_get ndP hp hu k⟩
  ·obtain⟨c,e⟩:=cell_has (n:=s.heap.objs.size+1) k
   refine .inr ⟨.inl k,c,e,?_⟩
   have q:=x.cell y c e
   rw[bindC_get ndP hp hu (by show scope.names.lookup y≠_;rw[k];decide)]at q
   exact q
 ·exact e0.hok.fresh (Nat.le_of_lt (x.above y c (PySem.mem_of_lookup h)))
 ·unfold start
  show _=N.length
  rw[List.length_append,List.length_map,List.length_replicate]
  omega
theorem fn_of {CX:CXT}{P:Program}{w:World}{K:PySem.W.Frag}{mg:Str→Option Value}{base:Heap}{k:Nat}{f:Addr}{name qual:Str}{params:Arguments}{body:List Stmt}{scope:Scope}{dV kV doc pm cdv ct oc:Value}{an od:Option Addr}
  {osl:Array (Option Value)} {N ps:List Str} {sp:Sp} (lk:K.lookup f=some ⟨oc,od,.func (PySem.W.fnOf name qual params body scope dV kV doc pm an cdv ct),osl⟩) (hcd:PySem.W.codeIn K cdv qual=true) (S:FnScope N ps scope)
  (len:∀vs H Q E,sp vs H Q E→vs.length=ps.length)
  (hbody:∀(A:Around) (outer:List Env) (s:Shared) (H:Hp) (vs:List V) (Q:VK) (E:XK),Room k (A.deeper (envOfC qual scope s.heap.objs.size f cdv))→sp vs H Q E →
   ∃t,PSs (cxOf CX P w K mg base N qual scope f cdv A outer s H E) body t∧t { nx:=fun _ H'=>Q .non H',rt:=Q } (start N vs) H):
  FnOk P w K mg base CX (k+1) f (PySem.W.fnOf name qual params body scope dV kV doc pm an cdv ct) ps sp:=by
 refine⟨len,fun A outer s H args us vs Q E hr e0 hb r hsp=>?_⟩
 have hl:=len _ _ _ _ hsp
 have KX:K.In s.heap:=e0.mod.kin.keeps fun b o e=>(e0.bs b o e).1
 have lim:s.heap.NoLimit:=e0.mod.nolimit.keeps fun b o e=>(e0.bs b o e).1
 have hkind:∀y∈ps.zip us,scope.names.lookup y.1=some .local∨(scope.names.lookup y.1=some .cell∧((cellsFrom (s.heap.objs.size+1) scope.names []).lookup y.1).isSome=true):=fun ⟨n,v⟩ hy=>by
  rcases S.par n (List.of_mem_zip hy).1 with q | q
  ·exact .inl q
  ·exact .inr ⟨q,PySem.W.cellsFrom_some _ _ _ (.inl q)⟩
 refine codeAny_call_function hr.depth (KX _ _ lk) rfl S.co S.gen rfl (PySem.W.codeRec_of KX hcd) (hb _ _ _ _ ?_)
 refine wpAny_newFunctionEnv_cells S.kind hkind fun env he s1 x=>?_
 subst he
 refine⟨lim.keeps x.toInCall.keep,codeAny_func ?_⟩
 obtain⟨t,ht,hq⟩:=hbody A outer s H vs Q E (hr.deeper _) hsp
 have I:Inv (cxOf CX P w K mg base N qual scope f cdv A outer s H E) [] (start N vs) H s1:=inv_start S hr.hd e0 hl r x
 refine wpAny_mono (ht [] s1 (start N vs) H _ I hq) (fun fl s' hs=>?_) fun e s' hs=>hs
 have fin:∀ {σ':St} {H':Hp} {v:V} {u:Value},Inv (cxOf CX P w K mg base N qual scope f cdv A outer s H E) [] σ' H' s'→RelV v u→Q v H'→CE outer P w H s Q u s':=
  fun {σ' H' v u} J rv q=>⟨v,H',J.os,J.bare,J.base,J.hok,rv,q⟩
 cases fl with
 | ret u=>
  obtain⟨v,σ',H',J,rv,q⟩:=hs
  exact fin J rv q
 | next=>
  obtain⟨σ',H',J,q⟩:=hs
  exact fin (v:=V.non) (u:=Value.none) J rfl q
 | brk=>
  obtain⟨_,_,_,q⟩:=hs
  exact False.elim q
 | cont=>
  obtain⟨_,_,_,q⟩:=hs
  exact False.elim q
section
variable {X:Cx}{x:Str}{p pos:Pos}{e:Expr}{es:List Expr}{t:TA}{id T:String}{r:List V→Hp→VK→Prop}
def tCB (r:List V→Hp→VK→Prop)(t:TA):TE:=fun σ H Q=>t σ H fun vs H1=>r vs H1 Q
theorem pe_callB (hc:CallR X (.builtin id) r) (hg:Gl X x) (hm:X.mg x=none) (hv:bootBuiltins x=some (.builtin id)) (ha:PA X (e::es) t) (hn:x≠"__name__":=by decide) (hdb:(x == ("__debug__":Str))=false:=by decide)
  (he:starEach (e::es) X.env=(false,eval e X.env)::starEach es X.env:=by rfl) (hpl:(backTo pos (starEach es X.env)).any (·.1)=false:=by rfl):PE X (.Call (.Name x p) (e::es) [] pos) (tCB r t):=by
 intro pins s σ H Q I h
 refine wpAny_Call_Name_kw (ld_blt I hg hm hv ?_ hn hdb)
 exact PyProof.Rows.callWith_builtin1 (thn (ha pos pins s σ H _ I h) fun us s1 ⟨vs,H1,I1,r1,q1⟩=>hc pins s1 σ H1 vs us Q I1 r1 q1) he hpl
theorem pe_callTy (hc:CallR X (.type T) r) (hg:Gl X x) (hm:X.mg x=none) (hv:bootBuiltins x=some (.type T)) (ha:PA X (e::es) t) (hn:x≠"__name__":=by decide) (hdb:(x == ("__debug__":Str))=false:=by decide)
  (he:starEach (e::es) X.env=(false,eval e X.env)::starEach es X.env:=by rfl) (hpl:(backTo pos (starEach es X.env)).any (·.1)=false:=by rfl):PE X (.Call (.Name x p) (e::es) [] pos) (tCB r t):=by
 intro pins s σ H Q I h
 refine wpAny_Call_Name_kw (ld_blt I hg hm hv ?_ hn hdb)
 exact PyProof.Rows.callWith_type1 (thn (ha pos pins s σ H _ I h) fun us s1 ⟨vs,H1,I1,r1,q1⟩=>hc pins s1 σ H1 vs us Q I1 r1 q1) he hpl
end
end L2
namespace HT
open PySem PyProof.Rows
section
open PySem.SeqAt
open PySem.AutoSeq1 (wpAny_loadPart')
open PySem.MeetsSeq PySem.MeetsSeq2 PySem.MeetsSeq3
end
section
variable {prog:Program}{w:World}{A:Around}{E:Value→Shared→Prop}{s:Shared}
def sIx (n d:Nat):Option Int→Nat
 | none=>d
 | some v=>if v<0 then (v+(n:Int)).toNat else min v.toNat n
theorem sIx_none (n d:Nat):sIx n d none=d:=rfl
theorem sIx_nat (n d k:Nat):sIx n d (some (k:Int))=min k n:=by
 show (if (k:Int)<0 then ((k:Int)+(n:Int)).toNat else min (k:Int).toNat n)=min k n
 rw[if_neg (by omega),Int.toNat_natCast]
theorem sIx_le (n d:Nat)(hd:d≤n)(o:Option Int):sIx n d o≤n:=by
 cases o with
 | none=>exact hd
 | some v=>
  show (if v<0 then (v+(n:Int)).toNat else min v.toNat n)≤n
  by_cases hv:v<0
  ·rw[if_pos hv];omega
  ·rw[if_neg hv];exact Nat.min_le_right _ _
theorem clip_eq (v:Int)(n d:Nat):(if v<0 then max (v+(n:Int)) 0 else min v (n:Int))=((sIx n d (some v):Nat):Int):=by
 show (if v<0 then max (v+(n:Int)) 0 else min v (n:Int))=(((if v<0 then (v+(n:Int)).toNat else min v.toNat n):Nat):Int)
 by_cases hv:v<0
 ·simp only[if_pos hv];omega
 ·simp only[if_neg hv];omega
end
end HT
namespace L2
open PySem PySem.Spec PyProof.Rows
abbrev TO:=St→Hp→(Option Int→Hp→Prop)→Prop
def PO (X:Cx)(e:Option Expr)(t:TO):Prop:=
 ∀(pins:List (Addr×Obj)) (s:Shared) (σ:St) (H:Hp) (Q:Option Int→Hp→Prop),Inv X pins σ H s→t σ H Q →
  wpAny (model X.prog X.w) X.A (evalPart e X.env) (fun u s'=>∃o H',Inv X pins σ H' s'∧IsPart u o∧Q o H') X.xe s
def tNoPart:TO:=fun _ H Q=>Q none H
def tPart (t:TE):TO:=fun σ H Q=>t σ H fun x H1=>∃i,x=.int i∧Q (some i) H1
section
variable {X:Cx}{e:Expr}{te:TE}{lo hi:Option Expr}{tl th:TO}{pos p2:Pos}
theorem po_none:PO X none tNoPart:=by
 intro pins s σ H Q I h
 rw[evalPart_none]
 exact wpAny_pure ⟨none,H,I,.none,h⟩
theorem po_some (h:PE X e te):PO X (some e) (tPart te):=by
 intro pins s σ H Q I hw
 rw[evalPart_some]
 refine thn (h pins s σ H _ I hw) fun u s1 ⟨x,H1,I1,r1,q1⟩=>?_
 obtain⟨i,rfl,q⟩:=q1
 obtain⟨t,rfl⟩:=r1
 exact⟨some i,H1,I1,.int i t,q⟩
def SlR (X:Cx)(r:V→Option Int→Option Int→Hp→VK→Prop):Prop:=
 ∀(pins:List (Addr×Obj)) (s:Shared) (σ:St) (H:Hp) (x:V) (v vl vu:Value) (lo hi:Option Int) (sl:Addr) (Q:VK),Inv X pins σ H s→RelV x v→s.heap.IsSliceOf sl vl vu .none→IsPart vl lo→IsPart vu hi→r x lo hi H Q →
  ∃T id,typeLookup (.type T) "__getitem__"=pure (some (.builtin id))∧s.TypeIs v T∧wpAny (model X.prog X.w) X.A (getItem v (.ref sl)) (EP X pins σ Q) X.xe s
def tSl (r:V→Option Int→Option Int→Hp→VK→Prop)(te:TE)(tl th:TO):TE:=fun σ H Q=>te σ H fun x H1=>tl σ H1 fun l H2=>th σ H2 fun u H3=>r x l u H3 Q
theorem pe_slice {r:V→Option Int→Option Int→Hp→VK→Prop}(hr:SlR X r)(he:PE X e te)(hl:PO X lo tl)(hu:PO X hi th):PE X (.Subscript e (.Slice lo hi none p2) pos) (tSl r te tl th):=by
 intro pins s σ H Q I h
 refine Subscript_ (thn (he pins s σ H _ I h) fun v s1 ⟨x,H1,I1,r1,q1⟩=>?_)
 refine wpAny_Slice (thn (hl pins s1 σ H1 _ I1 q1) fun vl s2 ⟨l,H2,I2,pl,q2⟩=>thn (hu pins s2 σ H2 _ I2 q2) fun vu s3 ⟨u,H3,I3,pu,q3⟩=>?_)
 rw[evalPart_none]
 refine wpAny_pure ?_
 have I4:Inv X pins σ H3 { s3 with heap:=s3.heap.push { cls:=.type "slice",data:=.fields #[vl,vu,.none] } }:=I3.kept (t':=s3.toks) fun b ob q=>Heap.get?_push_of_some _ q
 obtain⟨T,id,hT,ht,hg⟩:=hr pins { s3 with heap:=s3.heap.push { cls:=.type "slice",data:=.fields #[vl,vu,.none] } } σ H3 x v vl vu l u s3.heap.objs.size Q I4 r1 (Heap.IsSliceOf.new ..) pl pu q3
 show wpAny (model X.prog X.w) X.A (subscriptTail e (.Slice lo hi none p2) v (.ref s3.heap.objs.size)) (EP X pins σ Q) X.xe { s3 with heap:=s3.heap.push { cls:=.type "slice",data:=.fields #[vl,vu,.none] } }
 exact tail_any (ops:=[.ref s3.heap.objs.size,v]) ht hT hg (by with_unfolding_all rfl)
def cutV (xs:List V)(lo hi:Option Int):List V:=(xs.drop (HT.sIx xs.length 0 lo)).take (HT.sIx xs.length xs.length hi-HT.sIx xs.length 0 lo)
theorem cutV_length (xs:List V)(lo hi:Option Int):(cutV xs lo hi).length≤xs.length:=by
 unfold cutV
 rw[List.length_take,List.length_drop]
 omega
end
end L2
namespace L2
open PySem PySem.Spec PyProof.Rows
def ixN (n:Nat)(i:Int):Option Nat:=if 0≤i then (if i<n then some i.toNat else none) else if -(n:Int)≤i then some (i+n).toNat else none
def atI {α:Type}(xs:List α)(i:Int):Option α:=(ixN xs.length i).bind fun j=>xs[j]?
theorem ixN_seq {n:Nat}{i:Int}{j:Nat}(h:ixN n i=some j):seqIndex? i n=some j∧j<n∧-(n:Int)≤i∧i<n:=by
 unfold ixN at h
 by_cases h0:0≤i
 ·rw[if_pos h0]at h
  by_cases h1:i<n
  ·rw[if_pos h1]at h
   have e:i.toNat=j:=Option.some.inj h
   exact⟨by rw[seqIndex_of h0 h1,e],by omega,by omega,h1⟩
  ·rw[if_neg h1]at h;cases h
 ·rw[if_neg h0]at h
  by_cases h1:-(n:Int)≤i
  ·rw[if_pos h1]at h
   have e:(i+n).toNat=j:=Option.some.inj h
   exact⟨by rw[seqIndex_neg (by omega) h1,e],by omega,h1,by omega⟩
  ·rw[if_neg h1]at h;cases h
theorem atI_get {α:Type}{xs:List α}{i:Int}{v:α}(h:atI xs i=some v):∃j,seqIndex? i xs.length=some j∧xs[j]?=some v∧j<xs.length∧-(xs.length:Int)≤i∧i<xs.length:=by
 unfold atI at h
 cases e:ixN xs.length i with
 | none=>rw[e]at h;cases h
 | some j=>
  rw[e]at h
  obtain⟨h1,h2,h3,h4⟩:=ixN_seq e
  exact⟨j,h1,h,h2,h3,h4⟩
def PlainIx (b:Expr):Prop:=∀o i,subscripted b false o i=operate [o,i] (getItem o i)
def IxR (X:Cx)(r:R2):Prop:=
 ∀(value slice:Expr) (pins:List (Addr×Obj)) (s:Shared) (σ:St) (H:Hp) (x y:V) (v u:Value) (Q:VK),Inv X pins σ H s→RelV x v→RelV y u→r x y H Q →
  subscripted slice false v u=operate [v,u] (getItem v u)→wpAny (model X.prog X.w) X.A (subscriptTail value slice v u) (EP X pins σ Q) X.xe s
def MtR (X:Cx)(id:String)(r:V→List V→Hp→VK→Prop):Prop:=
 ∀(pins:List (Addr×Obj)) (s:Shared) (σ:St) (H:Hp) (x:V) (xs:List V) (v:Value) (us:List Value) (Q:VK),Inv X pins σ H s→RelV x v→Vals xs us→r x xs H Q →
  wpAny (model X.prog X.w) X.A (call (.builtin id) (v::us)) (EP X pins σ Q) X.xe s
section
variable {X:Cx}{a b:Expr}{ta tb:TE}{pos:Pos}
theorem pe_ix {r:R2}(hr:IxR X r)(ha:PE X a ta)(hb:PE X b tb)(hs:PlainIx b):PE X (.Subscript a b pos) (tOp r ta tb):=by
 intro pins s σ H Q I h
 exact Subscript_ (binT ha hb I h fun v u s2 x y H2 I2 rx ry q=>hr a b pins s2 σ H2 x y v u Q I2 rx ry q (hs _ _))
def rIxL (K:PySem.W.Frag):R2:=fun x y H Q=>∃p xs i v,x=.ref p∧y=.int i∧SqL K H p xs∧atI xs i=some v∧Q v H
def rIxT (K:PySem.W.Frag):R2:=fun x y H Q=>∃p xs i v,x=.ref p∧y=.int i∧SqT K H p xs∧atI xs i=some v∧Q v H
def rIxS:R2:=fun x y H Q=>∃z i c,x=.str z∧y=.int i∧z.length≤sizeLine∧atI z.cps.toList i=some c∧Q (.str ⟨#[c]⟩) H
theorem ix_list:IxR X (rIxL X.K):=by
 intro value slice pins s σ H x y v u Q I rx ry h hs
 obtain⟨p,xs,i,z,rfl,rfl,hq,he,q⟩:=h
 cases rx
 obtain⟨t,rfl⟩:=ry
 obtain⟨its,r,pl,hz⟩:=I.list hq
 obtain⟨j,h1,h2,h3,h4,h5⟩:=atI_get he
 obtain⟨w,ew,rw'⟩:=r.get h2
 have hl:=r.length
 have hn:=line63
 have fin:EP X pins σ Q w s:=⟨z,H,I,rw',q⟩
 by_cases h0:0≤i
 ·have hj:i.toNat=j:=by
   rw[seqIndex_of h0 h5]at h1
   exact Option.some.inj h1
  exact item_listR pl.isList h0 (by omega) (by rw[hj];simpa using ew) fin hs
 ·have hj:(i+(its.toArray.size:Int)).toNat=j:=by
   rw[seqIndex_neg (by omega) h4]at h1
   rw[List.size_toArray,←hl]
   exact Option.some.inj h1
  exact subscriptTail_builtinR (x:=w) pl.isList.typeIs slot_list_getitem.lookup
   (wpAny_getItem_list_neg (Q:=fun r s'=>r=w∧EP X pins σ Q r s') pl.isList (by omega) (by rw[List.size_toArray]<;>omega) (by omega) (by rw[hj];simpa using ew) ⟨rfl,fin⟩) hs
theorem ix_tup:IxR X (rIxT X.K):=by
 intro value slice pins s σ H x y v u Q I rx ry h hs
 obtain⟨p,xs,i,z,rfl,rfl,hq,he,q⟩:=h
 cases rx
 obtain⟨t,rfl⟩:=ry
 obtain⟨its,r,pl,hz⟩:=I.tuple hq
 obtain⟨j,h1,h2,h3,h4,h5⟩:=atI_get he
 obtain⟨w,ew,rw'⟩:=r.get h2
 have hl:=r.length
 have hn:=line63
 have fin:EP X pins σ Q w s:=⟨z,H,I,rw',q⟩
 exact subscriptTail_builtinR (x:=w) pl.typeIs slot_tuple_getitem.lookup
  (getItem_tuple (j:=j) (Q:=fun r s'=>r=w∧EP X pins σ Q r s') pl (by omega) (by omega) (by rw[List.size_toArray,←hl];exact h1) (by simpa using ew) ⟨rfl,fin⟩) hs
theorem ix_str:IxR X rIxS:=by
 intro value slice pins s σ H x y v u Q I rx ry h hs
 obtain⟨z,i,c,rfl,rfl,hz,he,q⟩:=h
 obtain⟨t,rfl⟩:=rx
 obtain⟨t',rfl⟩:=ry
 obtain⟨j,h1,h2,h3,h4,h5⟩:=atI_get he
 have hl:z.cps.toList.length=z.length:=by simp[Str.length]
 rw[hl]at h1 h4 h5
 have hn:=line63
 exact tail_any (typeIs_str s z t) slot_str_getitem.lookup (getItem_str (c:=c) (by
  have e1:decide (i < -(2 ^ 63:Int))=false:=decide_eq_false (by omega)
  have e2:decide (i≥2 ^ 63)=false:=decide_eq_false (by omega)
  rw[e1,e2,Bool.or_false]) (by rw[h1];simpa using h2) ⟨.str ⟨#[c]⟩,H,I.tok _,⟨_,rfl⟩,q⟩) hs
theorem slice_bounds (lo hi:Option Int)(n:Nat):(sliceBounds lo hi none n).1=((HT.sIx n 0 lo:Nat):Int)∧(sliceBounds lo hi none n).2.1=((HT.sIx n n hi:Nat):Int)∧(sliceBounds lo hi none n).2.2=1:=by
 refine⟨?_,?_,rfl⟩
 ·cases lo with
  | none=>simp[sliceBounds,HT.sIx]
  | some i=>
   simp only[sliceBounds,HT.sIx,Option.getD_none,show (1:Int)>0 by decide,if_true]
   by_cases h:i<0
   ·simp only[h,if_true]<;>omega
   ·simp only[h,if_false]<;>omega
 ·cases hi with
  | none=>simp[sliceBounds,HT.sIx]
  | some i=>
   simp only[sliceBounds,HT.sIx,Option.getD_none,show (1:Int)>0 by decide,if_true]
   by_cases h:i<0
   ·simp only[h,if_true]<;>omega
   ·simp only[h,if_false]<;>omega
theorem slicePick_cut (its:List Value)(lo hi:Option Int):slicePick its.toArray lo hi none=((its.drop (HT.sIx its.length 0 lo)).take (HT.sIx its.length its.length hi-HT.sIx its.length 0 lo)).toArray:=by
 obtain⟨h1,h2,h3⟩:=slice_bounds lo hi its.toArray.size
 unfold slicePick
 rw[h1,h2,h3]
 simp only[sliceRange_one,pick_run,List.size_toArray]<;>rfl
def rSlL (K:PySem.W.Frag):V→Option Int→Option Int→Hp→VK→Prop:=fun x lo hi H Q=>∃a xs,x=.ref a∧SqL K H a xs∧∀p,H p=none→Q (.ref p) (upd H p (.lst (cutV xs lo hi)))
theorem sl_list:SlR X (rSlL X.K):=by
 intro pins s σ H x v vl vu lo hi sl Q I rx hs pl pu h
 obtain⟨a,xs,rfl,hx,q⟩:=h
 cases rx
 obtain⟨its,r,ht,hz⟩:=I.list hx
 have hlen:=r.length
 refine⟨"list",_,slot_list_getitem.lookup,ht.isList.typeIs,?_⟩
 refine wpAny_getItem_list_slice ht.isList hs pl pu .none (by simp) ?_ (by rw[List.size_toArray]<;>omega)
 rw[slicePick_cut,←hlen]
 refine⟨.ref s.heap.objs.size,_,I.laid (t':=s.toks) (o:=.lst (cutV xs lo hi)) (fun b ob q=>Heap.get?_push_of_some _ q) (Nat.le_refl _) ?_,rfl,q _ (I.hok.fresh (Nat.le_refl _))⟩
 exact⟨Nat.le_trans (cutV_length xs lo hi) hz,_,0,(r.drop (HT.sIx xs.length 0 lo)).take (HT.sIx xs.length xs.length hi-HT.sIx xs.length 0 lo),Heap.get?_push_size _ rfl⟩
def flatV:V→Bool
 | .non=>true
 | .bl _=>true
 | .int _=>true
 | .str _=>true
 | _=>false
def eqV:V→V→Bool
 | .non,.non=>true
 | .bl a,.bl b=>a == b
 | .bl a,.int b=>(if a then 1 else 0) == b
 | .int a,.bl b=>a == (if b then 1 else 0)
 | .int a,.int b=>a == b
 | .str a,.str b=>a == b
 | _,_=>false
theorem eqAt_V {A:Around}{s:Shared}{y x:V}{u v:Value}(ry:RelV y u)(rx:RelV x v)(fy:flatV y=true)(fx:flatV x=true):SeqAt.EqAt A s u v (eqV y x):=by
 cases y with
 | non=>
  cases ry
  cases x with
  | non=>cases rx;exact SeqAt.EqAt.same _
  | bl b=>cases rx;exact SeqAt.EqAt.none_bool b
  | int b=>obtain⟨t,rfl⟩:=rx;exact SeqAt.EqAt.none_int b t
  | str b=>obtain⟨t,rfl⟩:=rx;exact SeqAt.EqAt.none_str b t
  | _=>exact absurd (show false=true from fx) Bool.false_ne_true
 | bl a=>
  cases ry
  cases x with
  | non=>cases rx;exact SeqAt.EqAt.bool_none a
  | bl b=>cases rx;exact SeqAt.EqAt.bool_bool a b
  | int b=>obtain⟨t,rfl⟩:=rx;exact SeqAt.EqAt.bool_int a b t
  | str b=>obtain⟨t,rfl⟩:=rx;exact SeqAt.EqAt.bool_str a b t
  | _=>exact absurd (show false=true from fx) Bool.false_ne_true
 | int a=>
  obtain⟨t',rfl⟩:=ry
  cases x with
  | non=>cases rx;exact SeqAt.EqAt.int_none a t'
  | bl b=>cases rx;exact SeqAt.EqAt.int_bool a t' b
  | int b=>obtain⟨t,rfl⟩:=rx;exact SeqAt.EqAt.int_int a t' b t
  | str b=>obtain⟨t,rfl⟩:=rx;exact SeqAt.EqAt.int_str a t' b t
  | _=>exact absurd (show false=true from fx) Bool.false_ne_true
 | str a=>
  obtain⟨t',rfl⟩:=ry
  cases x with
  | non=>cases rx;exact SeqAt.EqAt.str_none a t'
  | bl b=>cases rx;exact SeqAt.EqAt.str_bool a t' b
  | int b=>obtain⟨t,rfl⟩:=rx;exact SeqAt.EqAt.str_int a t' b t
  | str b=>obtain⟨t,rfl⟩:=rx;exact SeqAt.EqAt.str_str a t' b t
  | _=>exact absurd (show false=true from fx) Bool.false_ne_true
 | _=>exact absurd (show false=true from fy) Bool.false_ne_true
theorem call_tuple_of:CallR X (.type "tuple") (fun xs H Q=>∃p ys,xs=[.ref p]∧((SqL X.K H p ys∧∀l,H l=none→Q (.ref l) (upd H l (.tup ys)))∨(SqT X.K H p ys∧Q (.ref p) H))):=by
 intro pins s σ H xs us Q I r h
 obtain⟨p,ys,rfl,h⟩:=h
 obtain⟨u,rfl,rx⟩:=vals1 r
 cases rx
 rcases h with⟨hq,q⟩|⟨hq,q⟩
 ·obtain⟨its,r',pl,hz⟩:=I.list hq
  have hlen:=r'.length
  refine call_tuple_list pl.isList (fun h' kp=>?_) (by simp only[List.size_toArray]<;>omega)
  have I1:Inv X pins σ H { s with heap:=h' }:=I.kept (t':=s.toks) kp
  have I2:Inv X pins σ (upd H h'.objs.size (.tup ys)) { s with heap:=h'.push { cls:=.type "tuple",data:=.seq its.toArray } }:=
   I1.laid (t':=s.toks) (fun b o e=>Heap.get?_push_of_some _ e) (Nat.le_refl _) (show ObjOk X.prog X.w _ _ _ (.tup ys) from⟨hz,its,r',IsTup.new _ _⟩)
  exact⟨.ref h'.objs.size,_,I2,rfl,q _ (I1.hok.fresh (Nat.le_refl _))⟩
 ·obtain⟨its,r',pl,hz⟩:=I.tuple hq
  exact call_tuple_same pl ⟨.ref p,H,I,rfl,q⟩
def tyV (K:PySem.W.Frag)(T:String)(x:V)(H:Hp):Prop:=match x with
 | .str _=>T="str"
 | .int _=>T="int"
 | .ref p=>(T="list"∧∃xs,SqL K H p xs)∨(T="tuple"∧∃o,K.lookup p=some o∧o.cls=.type "tuple"∧o.dict=none) ∨
   (T="dict"∧((∃kvs,H p=some (.dK kvs))∨∃kvs,H p=some (.dT kvs)))∨(T="set"∧∃S n,H p=some (.set S n))
 | _=>False
theorem tyV_is {pins:List (Addr×Obj)}{σ:St}{H:Hp}{s:Shared}{T:String}{x:V}{v:Value}(I:Inv X pins σ H s)(r:RelV x v)(ty:tyV X.K T x H):
  s.TypeIs v T∧∀a,v=.ref a→∃ob,s.heap.get? a=some ob∧ob.dict=none:=by
 cases x with
 | str z=>
  obtain⟨t,rfl⟩:=r
  cases (show T="str" from ty)
  exact⟨typeIs_str s z t,fun _ e=>nomatch e⟩
 | int i=>
  obtain⟨t,rfl⟩:=r
  cases (show T="int" from ty)
  exact⟨typeIs_int s i t,fun _ e=>nomatch e⟩
 | ref p=>
  cases r
  rcases ty with⟨rfl,xs,hq⟩|⟨rfl,o,hk,hc,hd⟩|⟨rfl,hk⟩|⟨rfl,S,n,hk⟩
  ·obtain⟨its,_,pl,_⟩:=I.list hq
   refine⟨pl.isList.typeIs,fun a e=>?_⟩
   cases e
   obtain⟨o,n,e,c,hd,_⟩:=pl
   exact⟨o,e,hd⟩
  ·refine⟨⟨o,I.kIn p o hk,hc⟩,fun a e=>?_⟩
   cases e
   exact⟨o,I.kIn _ o hk,hd⟩
  ·have z:∃o,s.heap.get? p=some o∧o.ExactDict:=by
    rcases hk with⟨kvs,hk⟩|⟨kvs,hk⟩
    ·obtain⟨_,_,_,_,o,_,_,e,ex,_⟩:=I.hok p _ hk
     exact⟨o,e,ex⟩
    ·obtain⟨_,_,_,_,o,_,_,e,ex,_⟩:=I.hok p _ hk
     exact⟨o,e,ex⟩
   obtain⟨o,e,ex⟩:=z
   refine⟨⟨o,e,ex.1⟩,fun a e2=>?_⟩
   cases e2
   exact⟨o,e,ex.2.1⟩
  ·obtain⟨o,_,_,_,e,ex,_⟩:=I.hok p _ hk
   refine⟨⟨o,e,ex.1⟩,fun a e2=>?_⟩
   cases e2
   exact⟨o,e,ex.2.1⟩
 | _=>exact False.elim ty
def tBM0 (K:PySem.W.Frag)(T:String)(r:V→List V→Hp→VK→Prop)(to:TE):TE:=fun σ H Q=>to σ H fun x H1=>tyV K T x H1∧r x [] H1 Q
def tBM (K:PySem.W.Frag)(T:String)(r:V→List V→Hp→VK→Prop)(to:TE)(t:TA):TE:=fun σ H Q=>to σ H fun x H1=>tyV K T x H1∧t σ H1 fun xs H2=>r x xs H2 Q
variable {o e:Expr}{es:List Expr}{to:TE}{t:TA}{name:Str}{apos cpos:Pos}{T id:String}{r:V→List V→Hp→VK→Prop}
theorem pe_bm0 (pa:PlainAttrs T) (slot:Slot T name id) (hty:typeOf (.builtin id)=pure (.type "method_descriptor")) (hm:MtR X id r) (ho:PE X o to)
  (hbase:attributeBase o name X.env (eval o X.env)=eval o X.env:=by rfl) (hline:(apos.endLine == cpos.line)=true:=by rfl):PE X (.Call (.Attribute o name apos) [] [] cpos) (tBM0 X.K T r to):=by
 intro pins s σ H Q I h
 refine wpAny_Call_method0_late hbase hline (thn (ho pins s σ H _ I h) fun v s1 ⟨x,H1,I1,r1,ty,q1⟩=>?_)
 obtain⟨h1,h2⟩:=tyV_is I1 r1 ty
 exact⟨T,id,pa,slot,hty,h1,h2,Calls.callWith_builtin rfl (PySem.evalArgs_none (hm pins s1 σ H1 x [] v [] Q I1 r1 .nil q1))⟩
theorem pe_bm (pa:PlainAttrs T) (slot:Slot T name id) (hty:typeOf (.builtin id)=pure (.type "method_descriptor")) (hm:MtR X id r) (ho:PE X o to) (ha:PA X (e::es) t)
  (hbase:attributeBase o name X.env (eval o X.env)=eval o X.env:=by rfl)
  (hfew:((backTo cpos (starEach (e::es) X.env)).all (fun x=>!x.1)&&(backToKw cpos (keywordEach [] X.env)).all (fun x=>x.1.isSome)
   && decide ((e::es).length+([]:List Keyword).length+(if ([]:List Keyword).isEmpty then 0 else 1)<30))=true:=by rfl)
  (hline:(apos.endLine == cpos.line)=true:=by rfl) (hs:starEach (e::es) X.env=(false,eval e X.env)::starEach es X.env:=by rfl) (hplain:(backTo cpos (starEach es X.env)).any (·.1)=false:=by rfl):
  PE X (.Call (.Attribute o name apos) (e::es) [] cpos) (tBM X.K T r to t):=by
 intro pins s σ H Q I h
 refine wpAny_Call_method_late hbase hfew hline rfl (thn (ho pins s σ H _ I h) fun v s1 ⟨x,H1,I1,r1,ty,q1⟩=>?_)
 obtain⟨h1,h2⟩:=tyV_is I1 r1 ty
 refine⟨T,id,pa,slot,hty,h1,h2,?_⟩
 have hA:=ha cpos pins s1 σ H1 _ I1 q1
 rw[hs]at hA ⊢
 refine Calls.callWith_builtin (by show (false || (backTo cpos (starEach es X.env)).any (·.1))=false;rw[hplain]<;>rfl) (Calls.evalArgs_plain ?_)
 exact thn hA fun us s2 ⟨vs,H2,I2,r2,q2⟩=>hm pins s2 σ H2 x vs v us Q I2 r1 r2 q2
end
def MtM (X:Cx)(id:String)(r:V→List V→Hp→VK→Prop):Prop:=
 ∀(pins:List (Addr×Obj)) (s:Shared) (σ:St) (H:Hp) (x:V) (xs:List V) (v:Value) (us:List Value) (Q:VK),Inv X pins σ H s→RelV x v→Vals xs us→r x xs H Q →
  wpAny (model X.prog X.w) X.A (call (.builtin id) (v::us)) (EP X pins σ Q) X.xe s
theorem Vals.one:∀ {x:V} {us:List Value},Vals [x] us→∃u,us=[u]∧RelV x u
 | _,_,.cons r .nil=>⟨_,rfl,r⟩
theorem Vals.two:∀ {x y:V} {us:List Value},Vals [x,y] us→∃u v,us=[u,v]∧RelV x u∧RelV y v
 | _,_,_,.cons r (.cons q .nil)=>⟨_,_,rfl,r,q⟩
section
variable {X:Cx}{pins:List (Addr×Obj)}{σ:St}{H:Hp}{s:Shared}{l b:Addr}{xs ys zs:List V}
theorem Inv.lset {its its':List Value}{n:Nat}{f:Array Value→Array Value}{t':Nat}(I:Inv X pins σ H s)(hH:H l=some (.lst xs))
  (e:s.heap.get? l=some { cls:=.type "list",data:=.seq its.toArray n }) (hf:f its.toArray=its'.toArray) (hv:Vals ys its') (hz:ys.length≤sizeLine):
  Inv X pins σ (upd H l (.lst ys)) { s with heap:=s.heap.update l (Obj.mapSeq f),toks:=t' }:=by
 have q:=PySem.IsL.update e f
 rw[hf]at q
 refine I.write (x:=l) (e:=l) (by rw[hH];exact trivial) (.inl rfl) (fun b' u hb hu=>(Heap.get?_update_other s.heap (Obj.mapSeq f) (Ne.symm hb)).trans hu) ⟨_,q⟩ ?_
 exact⟨hz,its',_,hv,q⟩
theorem Inv.lnew {its:List Value}{t':Nat}(I:Inv X pins σ H s)(hv:Vals ys its)(hz:ys.length≤sizeLine):
  Inv X pins σ (upd H s.heap.objs.size (.lst ys)) { s with heap:=s.heap.push { cls:=.type "list",data:=.seq its.toArray },toks:=t' }:=
 I.laid (fun _ _ q=>Heap.get?_push_of_some _ q) (Nat.le_refl _) ⟨hz,its,0,hv,Heap.get?_push_size _ rfl⟩
theorem Inv.fresh (I:Inv X pins σ H s):H s.heap.objs.size=none:=I.hok.fresh (Nat.le_refl _)
theorem Inv.lstM (I:Inv X pins σ H s)(hH:H l=some (.lst xs)):xs.length≤sizeLine∧∃(its:List Value) (n:Nat),Vals xs its∧xs.length=its.length∧s.heap.get? l=some { cls:=.type "list",data:=.seq its.toArray n }:=by
 obtain⟨z,its,n,r,e⟩:=I.hok l _ hH
 exact⟨z,its,n,r,r.length,e⟩
theorem notLongL {n:Nat}(h:n≤sizeLine):Builtin.List.listTooLong n=false:=by
 unfold Builtin.List.listTooLong
 exact decide_eq_false (by omega)
end
section
variable {X:Cx}
def rAppend:V→List V→Hp→VK→Prop:=fun x vs H Q=>∃l xs y,x=.ref l∧vs=[y]∧H l=some (.lst xs)∧xs.length<sizeLine∧Q .non (upd H l (.lst (xs++[y])))
theorem mt_append:MtM X "list.append" rAppend:=by
 intro pins s σ H x vs v us Q I rx rv h
 obtain⟨l,xs,y,rfl,rfl,hH,hz,q⟩:=h
 cases rx
 obtain⟨u,rfl,ru⟩:=rv.one
 obtain⟨z,its,n,r,hl,e⟩:=I.lstM hH
 refine call_meets F.slot_list_append ⟨_,e,rfl⟩ F.entry_list_append (F.args_list_append_2 _ _) (PySem.list_append l its.toArray n u (by rw[List.size_toArray];omega)) ⟨e,?_⟩
 refine⟨.non,_,I.lset (its':=its++[u]) hH e (by simp) (r.append (.cons ru .nil)) ?_,rfl,q⟩
 rw[List.length_append,List.length_singleton]
 omega
def rExtend:V→List V→Hp→VK→Prop:=fun x vs H Q=>∃l b xs zs,x=.ref l∧vs=[.ref b]∧H l=some (.lst xs)∧H b=some (.lst zs)∧xs.length+zs.length≤sizeLine∧Q .non (upd H l (.lst (xs++zs)))
theorem mt_extend:MtM X "list.extend" rExtend:=by
 intro pins s σ H x vs v us Q I rx rv h
 obtain⟨l,b,xs,zs,rfl,rfl,hH,hB,hz,q⟩:=h
 cases rx
 obtain⟨u,rfl,ru⟩:=rv.one
 cases ru
 obtain⟨z,its,n,r,hl,e⟩:=I.lstM hH
 obtain⟨z2,its2,n2,r2,hl2,e2⟩:=I.lstM hB
 have hsz:its.toArray.size+its2.toArray.size≤sizeLine:=by rw[List.size_toArray,List.size_toArray];omega
 have hlong:¬(!its.toArray.isEmpty&&Builtin.List.listTooLong (its.toArray.size+its2.toArray.size))=true:=by
  rw[notLongL hsz,Bool.and_false]
  exact Bool.false_ne_true
 refine call_meets F.slot_list_extend ⟨_,e,rfl⟩ F.entry_list_extend (F.args_list_extend_2 _ _)
  (AutoSeq1.list_extend_list_list_0 l its.toArray n b its2.toArray n2 hlong (by rw[List.size_toArray];omega) (by omega)) ⟨e,e2,?_⟩
 refine⟨.non,_,I.lset (its':=its++its2) hH e (by simp) (r.append r2) ?_,rfl,q⟩
 rw[List.length_append]
 omega
def rCat:R2:=fun x y H Q=>∃l b xs zs,x=.ref l∧y=.ref b∧H l=some (.lst xs)∧H b=some (.lst zs)∧xs.length+zs.length≤sizeLine∧∀p,H p=none→Q (.ref p) (upd H p (.lst (xs++zs)))
theorem op_cat:OpR X (binaryOp .Add) rCat:=by
 intro pins s σ H x y v u Q I rx ry h
 obtain⟨l,b,xs,zs,rfl,rfl,hH,hB,hz,q⟩:=h
 cases rx
 cases ry
 obtain⟨z,its,n,r,hl,e⟩:=I.lstM hH
 obtain⟨z2,its2,n2,r2,hl2,e2⟩:=I.lstM hB
 refine PySem.P.add_list e e2 ?_ (by rw[List.size_toArray,List.size_toArray];omega)
 have ea:its.toArray++its2.toArray=(its++its2).toArray:=by simp
 rw[ea]
 exact⟨.ref _,_,I.lnew (t':=s.toks) (r.append r2) (by rw[List.length_append];omega),rfl,q _ I.fresh⟩
end
section
variable {prog:Program}{w:World}{A:Around}{E:Value→Shared→Prop}{s:Shared}
end
section
variable {X:Cx}
end
end L2
namespace Att
open PySem PySem.W PySem.Calls PyProof.Rows
theorem ints_of_wellAll {P:Params}{h:Heap}:∀(ns:List Int) (vs:List Value),WellAll P h vs (ns.map WData.int)→IntsAre vs ns:=by
 intro ns
 induction ns with
 | nil=>
  intro vs w
  rw[List.map_nil]at w
  cases w
  exact .nil
 | cons n ns ih=>
  intro vs w
  rw[List.map_cons]at w
  cases w with
  | cons a b=>
   cases a
   exact .cons _ _ (ih _ b)
theorem script_of {l:OpenLaw}{n:Nat}(hn:l.most=some n){P:Params}{h:Heap}{args:List WData}{vals:List Value}
  (hpre:l.row.toRowW.claim.pre args=true) (hwl:WellAll P h vals args):
  ∃a vs ns,vals=[Value.ref a]∧args=[WData.list (ns.map WData.int)]∧h.get? a=some { cls:=.type "list",data:=.seq vs.toArray }∧IntsAre vs ns∧ns.length≤n:=by
 have hsh:WShape.hasAll [] args [.list .int]=true:=(pre_splitW hpre).1
 have hc:l.pre.holds [] { args:=args }=true:=(pre_splitW hpre).2
 obtain⟨d,r,rfl,h1,h2⟩:=hasAllW_cons hsh
 obtain rfl:=hasAllW_nil h2
 obtain⟨xs,rfl,h3⟩:=hasW_list h1
 obtain⟨ns,rfl⟩:=items_int h3
 have hlen:ns.length≤n:=by
  unfold OpenLaw.pre at hc
  have h4:(WTm.not (.lt (.lit (.int (n:Int))) (.len (.arg 0)))).holds [] { args:=[.list (ns.map .int)] }=true:=by
   have h4:=(holds_andW hc).1
   rw[hn]at h4
   exact h4
  have h5:=condW_of h4 (w_not (w_lt w_lit (w_len_list (w_arg rfl))))
  rw[List.length_map]at h5
  refine Nat.le_of_not_lt fun q=>?_
  have q':(n:Int)<((ns.length:Nat):Int):=by omega
  first
   | (rw[decide_eq_true q']at h5;exact absurd h5 (by decide))
   | (simp at h5;omega)
 cases hwl with
 | cons w1 w2=>
  cases w2
  cases w1 with
  | list ho hall=>exact⟨_,_,ns,rfl,rfl,ho,ints_of_wellAll ns _ hall,hlen⟩
theorem post_true (l:OpenLaw)(args:List WData):l.row.toRowW.claim.post args (.bool true) args=true:=
 postW_of (r:=l.row.toRowW) (X:=(true == true))
  (show WShape.has [] (.bool true) .bool=true by first | rfl | decide | simp[WShape.has,WShape.arms,WShape.armsAll])
  (show (WTm.eq .res (.lit (.bool true))).value [] { args:=args,res:=some (.bool true),after:=args }=some (.bool (true == true)) from w_eq_bool (w_res rfl) w_lit) rfl
theorem attach_call {l:OpenLaw}{n:Nat}{q:Program}{loose:List Str}{XP:(Str→Option Value)→Heap→Prop}{YP:World→Heap→Prop}{d:DefRec}
  (hn:l.most=some n) (hdf:d.params.defaults=[])
  (call:∀(w:World) (s₀ s₁:Shared) (mg mb:Str→Option Value) (fa:Addr) (o:Obj) (pm cd doc:Value) (a:Addr) (vs:List Value) (ns:List Int),
   Ground q loose [] XP w s₀ mg mb s₁.heap→YP w s₁.heap →
   s₁.heap.get? fa=some o→o.data=.func (docDef d.name d.params d.body d.scope pm cd doc)→s₁.heap.CodeRec cd d.name→mg d.name=some (.ref fa) →
   s₁.heap.get? a=some { cls:=.type "list",data:=.seq vs.toArray }→IntsAre vs ns→ns.length≤n→s₁.gens=#[] →
   codeAny (model l.prog w) callerA (.call (.ref fa) ⟨[.ref a],[]⟩) (fun r s'=>r=.ok (.ret (.bool true))∧OldK s₁.heap s'.heap∧s'.os=s₁.os∧AllBare s'.gens) s₁):
  WalkO q loose XP YP l.row.toRowW d [] (fun f vs=>PySem.call f vs):=by
 intro w s₀ s₁ mg mb G Y fa o pm cd doc dV kV ho hd hcd hD hmg hg args vals as hpre hlay hrd hwl hlo
 obtain rfl:dV=.none:=Dflts.none hD hdf
 obtain rfl:kV=.none:=Dflts.noKw hD
 obtain⟨a,vs,ns,rfl,rfl,hobj,hints,hlen⟩:=script_of hn hpre hwl
 refine enter_call (codeAny_mono (call w s₀ s₁ mg mb fa o pm cd doc a vs ns G Y ho (fd_plain hd) hcd hmg hobj hints hlen hg) fun r s' hq=>?_)
 obtain⟨rfl,h2,h3,h4⟩:=hq
 exact⟨.inl ⟨.bool true,.bool true,[],rfl,fun _=>rfl,.bool true,post_true l _,fun _=>⟨List.Pairwise.nil,fun _ hm=>(nomatch hm)⟩⟩,h2,h3,h4⟩
section
variable {prog:Program}{w:World}{A:Around}{E:Value→Shared→Prop}{s:Shared}{K:Frag}
def ledger (h:Heap)(L d:Addr):List (Addr×Obj):=(List.range h.objs.size).filterMap fun a=>if a=L∨a=d then none else (h.get? a).map fun o=>(a,o)
end
end Att
namespace L2
open PySem PySem.Spec PyProof.Rows
theorem vals_ints:∀ {vs:List Value} {ns:List Int},IntsAre vs ns→Vals (ns.map V.int) vs
 | _,_,.nil=>.nil
 | _,_,.cons n t h=>.cons ⟨t,rfl⟩ (vals_ints h)
def Only (H:Hp):Prop:=∀b,H b=none∨∃o xs,H b=some (.frz o (.lst xs))
theorem law_call {P:Program}{w:World}{K:PySem.W.Frag}{mg mb:Str→Option Value}{CX:CXT}{k:Nat}{fa a:Addr}{fd:FuncData}{x:Str}{sp:Sp}{s₁:Shared}{vs:List Value}{ns:List Int}
  (KX:K.In s₁.heap) (hns:s₁.heap.Ns mainGlobals mg) (hb:s₁.heap.Ns builtinsNs mb) (hbb:∀x:Str,x≠"__name__"→mb x=bootBuiltins x) (hlim:s₁.heap.NoLimit) (hg:s₁.gens=#[])
  (ha:s₁.heap.get? a=some { cls:=.type "list",data:=.seq vs.toArray }) (hi:IntsAre vs ns) (hl:ns.length≤sizeLine) (hr:Room k callerA)
  (F:∀base:Heap,K.In base→base.Ns mainGlobals mg→FnOk P w K mg base CX k fa fd [x] sp) (hbind:∀(s:Shared) (u:Value),BindsTo s fd ⟨[u],[]⟩ [(x,u)])
  (hsp:∀H:Hp,Only H→SqL K H a (ns.map V.int)→sp [.ref a] H (fun v _=>v=.bl true) fun _ _ _=>False)
  (hCX:∀H e s',CX [] H s₁ (fun _ _ _=>False) e s'→False):
  codeAny (model P w) callerA (.call (.ref fa) ⟨[.ref a],[]⟩) (fun r s'=>r=.ok (.ret (.bool true))∧OldK s₁.heap s'.heap∧s'.os=s₁.os∧AllBare s'.gens) s₁:=by
 have rv:=vals_ints hi
 have lenV:=hi.length
 have core:∀H:Hp,Only H→SqL K H a (ns.map V.int)→HOk P w H s₁.heap→(∀b,H b≠none→b=a)→(H a≠none→K.lookup a=none) →
   codeAny (model P w) callerA (.call (.ref fa) ⟨[.ref a],[]⟩) (fun r s'=>r=.ok (.ret (.bool true))∧OldK s₁.heap s'.heap∧s'.os=s₁.os∧AllBare s'.gens) s₁:=by
  intro H hO hS hok hA hK
  have base_of:∀ {b:Addr} {o:Obj},s₁.heap.get? b=some o→H b=none→(hidT s₁.heap H).get? b=some o:=fun e n=>hidT_get e n
  have noA:∀ {b:Addr} {o:Obj} {es:Array DictEntry} {ep:Nat},s₁.heap.get? b=some o→o.data=.dict es ep→H b=none:=fun {b o es ep} e d=>by
   cases q:H b with
   | none=>rfl
   | some u=>
    have e':b=a:=hA b (by rw[q];simp)
    subst e'
    rw[ha]at e;cases e
    have d':Data.seq vs.toArray _=Data.dict es ep:=d
    cases d'
  have nsK:∀ {b:Addr} {m:Str→Option Value},s₁.heap.Ns b m→(hidT s₁.heap H).Ns b m:=fun {b m} ⟨o,es,ep,e,d,r⟩=>⟨o,es,ep,base_of e (noA e d),d,r⟩
  have hKb:K.In (hidT s₁.heap H):=fun b o e=>base_of (KX b o e) (by
   cases q:H b with
   | none=>rfl
   | some u=>
    have e':b=a:=hA b (by rw[q];simp)
    subst e'
    rw[hK (by rw[q];simp)]at e;cases e)
  have hM:Mod K mg (hidT s₁.heap H):=⟨hKb,nsK hns,⟨mb,nsK hb,hbb⟩,let ⟨mc,h1,h2⟩:=hlim;⟨mc,nsK h1,h2⟩⟩
  have e0:Env0 P w K mg (hidT s₁.heap H) callerA [] s₁ H:=⟨rfl,hM,fun b o e=>of_hidT e,Nat.le_of_eq (hidT_size _ _),trivial,fun b hb=>absurd (show b∈([]:List Addr) from hb) (by simp),hok,.of_eq hg⟩
  refine codeAny_mono ((F _ hKb (nsK hns)).run callerA [] s₁ H ⟨[.ref a],[]⟩ [.ref a] [.ref a] _ _ hr e0 (hbind s₁ (.ref a)) (.cons rfl .nil) (hsp H hO hS)) fun r s' h=>?_
  cases r with
  | error e=>exact(hCX H e s' h).elim
  | ok fl=>
   cases fl with
   | next=>exact False.elim h
   | brk=>exact False.elim h
   | cont=>exact False.elim h
   | ret u=>
    obtain⟨v,H',os,bare,un,hok',r',q⟩:=h
    have q':v=.bl true:=q
    subst q'
    obtain rfl:u=Value.bool true:=r'
    refine⟨rfl,OldK.of_keep fun b o e=>?_,os,bare⟩
    cases q:H b with
    | none=>exact un.keep b o e q (by intro z;exact absurd (show b∈([]:List Addr) from z) (by simp)) (by simp)
    | some u=>
     rcases hO b with z | ⟨ob,xs,z⟩
     ·rw[q]at z;cases z
     ·have z2:=un.frzs b ob _ z
      obtain⟨e1,_⟩:=hok b _ z
      obtain⟨e2,_⟩:=hok' b _ z2
      rw[e]at e1;cases e1
      exact e2
 cases hk:K.lookup a with
 | some o=>
  have e:=KX a o hk
  rw[ha]at e
  cases e
  refine core (fun _=>none) (fun _=>.inl rfl) (.inr ⟨_,vs.toArray,_,hk,rfl,rfl,rfl,by rw[List.size_toArray,lenV];exact hl,by simpa using rv⟩) (fun b u z=>by have z':(none:Option HO)=some u:=z;cases z') (fun b z=>absurd rfl z) fun z=>absurd rfl z
 | none=>
  refine core (fun b=>if b=a then some (.frz { cls:=.type "list",data:=.seq vs.toArray } (.lst (ns.map V.int))) else none) (fun b=>?_) (.inl (.inr ⟨{ cls:=.type "list",data:=.seq vs.toArray },if_pos rfl⟩)) (fun b u z=>?_) (fun b z=>?_) fun _=>hk
  ·by_cases hb:b=a
   ·exact .inr ⟨_,_,if_pos hb⟩
   ·exact .inl (if_neg hb)
  ·by_cases hb:b=a
   ·have z':=(if_pos hb).symm.trans z
    cases z'
    subst hb
    exact⟨ha,by rw[List.length_map];exact hl,vs,_,rv,ha⟩
   ·have z':=(if_neg hb).symm.trans z
    cases z'
  ·by_cases hb:b=a
   ·exact hb
   ·exact absurd (if_neg hb) z
end L2
namespace L2
open PySem PySem.Spec PyProof.Rows
abbrev KOf {K:PySem.W.Frag}{h:Heap}(_:K.In h):PySem.W.Frag:=K
theorem walk_of {l:PySem.W.OpenLaw}{n k:Nat}{q:Program}{loose:List Str}{XP:(Str→Option Value)→Heap→Prop}{YP:World→Heap→Prop}{d:DefRec}{K:Params→PySem.W.Frag}{CX:World→CXT}{sp:World→Sp}{x:Str}
  (hn:l.most=some n) (hn2:n≤sizeLine) (hdf:d.params.defaults=[]) (hr:Room k callerA)
  (hY:∀(w:World) (h:Heap),YP w h→(K w.params).In h)
  (F:∀(w:World) (mg:Str→Option Value) (fa:Addr) (h:Heap),(K w.params).In h→h.Ns mainGlobals mg→mg d.name=some (.ref fa) →
   ∃fd:FuncData,(∀(s:Shared) (u:Value),BindsTo s fd ⟨[u],[]⟩ [(x,u)]) ∧
    ∀base:Heap,(K w.params).In base→base.Ns mainGlobals mg→FnOk l.prog w (K w.params) mg base (CX w) k fa fd [x] (sp w))
  (hsp:∀(w:World) (H:Hp) (a:Addr) (ns:List Int),ns.length≤n→Only H→SqL (K w.params) H a (ns.map V.int)→sp w [.ref a] H (fun v _=>v=.bl true) fun _ _ _=>False)
  (hCX:∀(w:World) (H:Hp) (s:Shared) (e:Value) (s':Shared),CX w [] H s (fun _ _ _=>False) e s'→False):
  PySem.W.WalkO q loose XP YP l.row.toRowW d [] (fun f vs=>PySem.call f vs):=by
 refine Att.attach_call hn hdf fun w s₀ s₁ mg mb fa o pm cd doc a vs ns G Y ho hd hcd hmg hobj hints hlen hg=>?_
 have KX:=hY w _ Y
 obtain⟨fd,hb,hF⟩:=F w mg fa _ KX G.T.g hmg
 exact law_call KX G.T.g G.T.b G.T.builtins G.T.nolimit hg hobj hints (Nat.le_trans hlen hn2) hr hF hb (fun H hO hS=>hsp w H a ns hlen hO hS) fun H e s'=>hCX w H s₁ e s'
theorem walk_ofK {l:PySem.W.OpenLaw}{n k:Nat}{q:Program}{loose:List Str}{XP:(Str→Option Value)→Heap→Prop}{YP:World→Heap→Prop}{d:DefRec}{K:Params→PySem.W.Frag}{CX:CXT}{sp:PySem.W.Frag→Sp}{x:Str}
  (hn:l.most=some n) (hn2:n≤sizeLine) (hdf:d.params.defaults=[]) (hr:Room k callerA)
  (hY:∀(w:World) (h:Heap),YP w h→(K w.params).In h)
  (F:∀(w:World) (mg:Str→Option Value) (fa:Addr) (h:Heap),(K w.params).In h→h.Ns mainGlobals mg→mg d.name=some (.ref fa) →
   ∃fd:FuncData,(∀(s:Shared) (u:Value),BindsTo s fd ⟨[u],[]⟩ [(x,u)]) ∧
    ∀base:Heap,(K w.params).In base→base.Ns mainGlobals mg→FnOk l.prog w (K w.params) mg base CX k fa fd [x] (sp (K w.params)))
  (hsp:∀(K:PySem.W.Frag) (H:Hp) (a:Addr) (ns:List Int),ns.length≤n→Only H→SqL K H a (ns.map V.int)→sp K [.ref a] H (fun v _=>v=.bl true) fun _ _ _=>False)
  (hCX:∀(H:Hp) (s:Shared) (e:Value) (s':Shared),CX [] H s (fun _ _ _=>False) e s'→False):
  PySem.W.WalkO q loose XP YP l.row.toRowW d [] (fun f vs=>PySem.call f vs):=
 walk_of (K:=K) (CX:=fun _=>CX) (sp:=fun w=>sp (K w.params)) hn hn2 hdf hr hY F (fun w H a ns h1 h2 h3=>hsp (K w.params) H a ns h1 h2 h3) fun _ H s e s'=>hCX H s e s'
def inClass (s:Stmt)(j:Nat):Stmt:=match s with
 | .ClassDef _ _ _ body _ _ _ _ _ _ _=>body.getD j (.Pass ⟨0,0,0,0⟩)
 | _=>.Pass ⟨0,0,0,0⟩
def defArgs (s:Stmt):Arguments:=match s with
 | .FunctionDef _ a _ _ _ _ _ _ _ _=>a
 | _=>{ posonlyargs:=[],args:=[],vararg:=none,kwonlyargs:=[],kw_defaults:=[],kwarg:=none,defaults:=[] }
def defBody (s:Stmt):List Stmt:=match s with
 | .FunctionDef _ _ b _ _ _ _ _ _ _=>b
 | _=>[]
def defScope (s:Stmt):Scope:=match s with
 | .FunctionDef _ _ _ _ _ _ sc _ _ _=>sc
 | _=>{ kind:=.function,names:=[],isGenerator:=false,isCoroutine:=false }
abbrev CX0:CXT:=fun _ _ _ _ _ _=>False
abbrev E0:XK:=fun _ _ _=>False
theorem pass0 {X:Cx}:Passes CX0 X E0:=fun _ _ _ _ _ _ _ h=>h.elim
structure Fun (K:PySem.W.Frag)(x qual:Str)(st:Stmt)(f:Addr)(fd:FuncData):Prop where
 ex:∃(oc:Value) (od:Option Addr) (kV doc pm:Value) (an:Option Addr) (cdv ct:Value) (osl:Array (Option Value)),
  fd=PySem.W.fnOf x qual (defArgs st) (defBody st) (defScope st) .none kV doc pm an cdv ct∧K.lookup f=some ⟨oc,od,.func fd,osl⟩∧PySem.W.codeIn K cdv qual=true
 kp:PySem.W.keepIn K (.ref f)=true
section
variable {P:Program}{w:World}{K:PySem.W.Frag}{mg:Str→Option Value}{base:Heap}
theorem Fun.ok {x qual:Str}{st:Stmt}{f:Addr}{fd:FuncData}{N ps:List Str}{k:Nat}{sp:Sp}(F:Fun K x qual st f fd)(S:FnScope N ps (defScope st))(len:∀vs H Q E,sp vs H Q E→vs.length=ps.length)
  (hbody:∀(cdv:Value) (A:Around) (outer:List Env) (s:Shared) (H:Hp) (vs:List V) (Q:VK) (E:XK),Room k (A.deeper (envOfC qual (defScope st) s.heap.objs.size f cdv))→sp vs H Q E →
   ∃t,PSs (cxOf CX0 P w K mg base N qual (defScope st) f cdv A outer s H E).nox (defBody st) t∧t { nx:=fun _ H'=>Q .non H',rt:=Q } (start N vs) H):FnOk P w K mg base CX0 (k+1) f fd ps sp:=by
 obtain⟨oc,od,kV,doc,pm,an,cdv,ct,osl,rfl,lk,hcd⟩:=F.ex
 refine fn_of lk hcd S len fun A outer s H vs Q E hr hsp=>?_
 obtain⟨t,h,q⟩:=hbody cdv A outer s H vs Q E hr hsp
 exact⟨t,h.nox,q⟩
theorem Fun.binds {x qual:Str}{st:Stmt}{f:Addr}{fd:FuncData}{ps:List Str}(F:Fun K x qual st f fd)
  (h:∀(kV doc pm:Value) (an:Option Addr) (cdv ct:Value) (us:List Value),us.length=ps.length→bindArgs (PySem.W.fnOf x qual (defArgs st) (defBody st) (defScope st) .none kV doc pm an cdv ct) ⟨us,[]⟩=pure (ps.zip us)):Binds K fd ps []:=by
 obtain⟨oc,od,kV,doc,pm,an,cdv,ct,osl,rfl,lk,hcd⟩:=F.ex
 exact .all (h kV doc pm an cdv ct)
theorem fun_mk {x qual:Str}{st:Stmt}{f:Addr}{oc:Value}{od an:Option Addr}{osl:Array (Option Value)}{kV doc pm cdv ct:Value}(l:K.lookup f=some ⟨oc,od,.func (PySem.W.fnOf x qual (defArgs st) (defBody st) (defScope st) .none kV doc pm an cdv ct),osl⟩)
  (c:PySem.W.codeIn K cdv qual=true) (k:PySem.W.keepIn K (.ref f)=true):Fun K x qual st f (PySem.W.fnOf x qual (defArgs st) (defBody st) (defScope st) .none kV doc pm an cdv ct):=⟨⟨oc,od,kV,doc,pm,an,cdv,ct,osl,rfl,l,c⟩,k⟩
end
theorem small1000 {n:Nat}(h:n≤1000):n<sizeLine:=Nat.lt_of_le_of_lt h (by decide)
section
variable {X:Cx}
theorem pv (i:Nat) {x:Str} {pos:Pos} (hN:X.N[i]?=some x:=by rfl) (hv:Vis X.env.scope x:=by first | exact Or.inl rfl | exact Or.inr (Or.inl rfl) | exact Or.inr (Or.inr rfl)) (hd:(x == ("__debug__":Str))=false:=by decide)
  (hcd:(x == ("__classdict__":Str))=false:=by decide):PE X (.Name x pos) (tVar i):=pe_var hN hv hd hcd
end
theorem iteF {A B:Prop}(h:B):if false=true then A else B:=by
 rw[if_neg Bool.false_ne_true]
 exact h
theorem iteT {A B:Prop}(h:A):if true=true then A else B:=by
 rw[if_pos rfl]
 exact h
theorem ite2 {c A B:Prop}[Decidable c](h1:c→A)(h2:¬c→B):if c then A else B:=by
 by_cases h:c
 ·rw[if_pos h]
  exact h1 h
 ·rw[if_neg h]
  exact h2 h
def Same (H H':Hp):Prop:=∀b o,H b=some o→H' b=some o
theorem Same.refl (H:Hp):Same H H:=fun _ _ h=>h
theorem Same.trans {H H1 H2:Hp}(a:Same H H1)(b:Same H1 H2):Same H H2:=fun c o h=>b c o (a c o h)
theorem Same.free {H H':Hp}(e:Same H H'){l:Addr}(h:H' l=Option.none):H l=Option.none:=by
 cases q:H l with
 | none=>rfl
 | some o=>
  rw[e l o q]at h
  cases h
theorem Same.seq {K:PySem.W.Frag}{H H':Hp}{a:Addr}{xs:List V}(e:Same H H')(h:SqL K H a xs):SqL K H' a xs:=by
 rcases h with (h | ⟨o,h⟩) | h
 ·exact .inl (.inl (e _ _ h))
 ·exact .inl (.inr ⟨o,e _ _ h⟩)
 ·exact .inr h
section
variable {κ:Type}[DecidableEq κ]
def valV (kvs:List (κ×V))(k:κ):Option V:=(kvs.find? fun kv=>decide (kv.1=k)).map (·.2)
def putK (kvs:List (κ×V))(k:κ)(v:V):List (κ×V):=
 if (kvs.any fun kv=>decide (kv.1=k))=true then kvs.map (fun kv=>if kv.1=k then (kv.1,v) else kv) else kvs++[(k,v)]
theorem valV_pos {p:κ×V}{r:List (κ×V)}{k:κ}(e:p.1=k):valV (p::r) k=some p.2:=by simp[valV,List.find?_cons,e]
theorem valV_neg {p:κ×V}{r:List (κ×V)}{k:κ}(e:¬p.1=k):valV (p::r) k=valV r k:=by simp[valV,List.find?_cons,e]
theorem valV_any (k:κ):∀kvs:List (κ×V),(kvs.any fun kv=>decide (kv.1=k))=(valV kvs k).isSome
 | []=>rfl
 | p::r=>by
  rw[List.any_cons]
  by_cases e:p.1=k
  ·simp only[valV_pos e,decide_eq_true e,Bool.true_or,Option.isSome_some]
  ·rw[valV_neg e,decide_eq_false e,Bool.false_or];exact valV_any k r
theorem valV_map (k j:κ)(y:V):∀kvs:List (κ×V),valV (kvs.map fun kv=>if kv.1=k then (kv.1,y) else kv) j=(valV kvs j).map fun x=>if j=k then y else x
 | []=>rfl
 | p::r=>by
  have ih:=valV_map k j y r
  rw[List.map_cons]
  by_cases h:p.1=k
  ·rw[if_pos h]
   by_cases e:p.1=j
   ·rw[valV_pos (p:=(p.1,y)) e,valV_pos e,Option.map_some,if_pos (e.symm.trans h)]
   ·rw[valV_neg (p:=(p.1,y)) e,valV_neg e,ih]
  ·rw[if_neg h]
   by_cases e:p.1=j
   ·rw[valV_pos (p:=p) e,valV_pos e,Option.map_some,if_neg (fun z=>h (e.trans z))]
   ·rw[valV_neg (p:=p) e,valV_neg e,ih]
theorem valV_snoc (k j:κ)(y:V):∀kvs:List (κ×V),valV kvs k=none→valV (kvs++[(k,y)]) j=if j=k then some y else valV kvs j
 | [],_=>by
  by_cases e:k=j
  ·rw[if_pos e.symm];exact valV_pos (p:=(k,y)) e
  ·rw[if_neg (fun z=>e z.symm)];exact valV_neg (p:=(k,y)) e
 | p::r,hn=>by
  rw[List.cons_append]
  have hk:¬p.1=k:=fun z=>by rw[valV_pos z]at hn;cases hn
  rw[valV_neg hk]at hn
  have ih:=valV_snoc k j y r hn
  by_cases e:p.1=j
  ·rw[valV_pos e,valV_pos e,if_neg (fun z=>hk (e.trans z))]
  ·rw[valV_neg e,valV_neg e,ih]
theorem valV_put (kvs:List (κ×V))(k j:κ)(y:V):valV (putK kvs k y) j=if j=k then some y else valV kvs j:=by
 unfold putK
 by_cases a:(kvs.any fun kv=>decide (kv.1=k))=true
 ·rw[if_pos a,valV_map]
  rw[valV_any]at a
  by_cases e:j=k
  ·obtain⟨x,hx⟩:=Option.isSome_iff_exists.mp a
   rw[if_pos e,e,hx,Option.map_some,if_pos rfl]
  ·rw[if_neg e]
   cases valV kvs j with
   | none=>rfl
   | some x=>rw[Option.map_some,if_neg e]
 ·rw[if_neg a]
  refine valV_snoc k j y kvs ?_
  rw[valV_any]at a
  cases q:valV kvs k with
  | none=>rfl
  | some x=>rw[q]at a;exact(a rfl).elim
theorem length_putK (kvs:List (κ×V))(k:κ)(v:V):(putK kvs k v).length≤kvs.length+1:=by
 unfold putK
 split
 ·rw[List.length_map];omega
 ·rw[List.length_append,List.length_cons,List.length_nil];omega
theorem putK_new {kvs:List (κ×V)}{k:κ}(v:V)(h:valV kvs k=none):putK kvs k v=kvs++[(k,v)]:=by
 unfold putK
 rw[valV_any,h]
 exact if_neg (by decide)
theorem RelO.isSome_eq {o:Option V}{u:Option Value}(r:RelO o u):o.isSome=u.isSome:=by
 cases o with
 | none=>cases u with
  | none=>rfl
  | some _=>exact(show False from r).elim
 | some _=>cases u with
  | none=>exact(show False from r).elim
  | some _=>rfl
theorem RelO.getD {o:Option V}{u:Option Value}{d:V}{d':Value}(r:RelO o u)(rd:RelV d d'):RelV (o.getD d) (u.getD d'):=by
 cases o with
 | none=>cases u with
  | none=>exact rd
  | some _=>exact(show False from r).elim
 | some _=>cases u with
  | none=>exact(show False from r).elim
  | some _=>exact r
theorem KV.val {kvs:List (κ×V)}{vs:List (κ×Value)}(r:KV kvs vs)(k:κ):RelO (valV kvs k) (valueAt vs k):=by
 unfold KV at r
 induction r with
 | nil=>exact True.intro
 | @cons p q ps qs h t ih=>
  obtain⟨h1,h2⟩:=h
  by_cases e:p.1=k
  ·have e':q.1=k:=h1.symm.trans e
   have b:valueAt (q::qs) k=some q.2:=by simp[valueAt,List.find?_cons,e']
   rw[valV_pos e,b];exact h2
  ·have e':¬q.1=k:=fun z=>e (h1.trans z)
   have b:valueAt (q::qs) k=valueAt qs k:=by simp[valueAt,List.find?_cons,e']
   rw[valV_neg e,b];exact ih
theorem KV.any {kvs:List (κ×V)}{vs:List (κ×Value)}(r:KV kvs vs)(k:κ):(kvs.any fun kv=>decide (kv.1=k))=vs.any fun kv=>decide (kv.1=k):=by
 unfold KV at r
 induction r with
 | nil=>rfl
 | cons h t ih=>rw[List.any_cons,List.any_cons,ih,h.1]
theorem KV.repl {kvs:List (κ×V)}{vs:List (κ×Value)}(r:KV kvs vs)(k:κ){y:V}{u:Value}(ry:RelV y u):
  KV (kvs.map fun kv=>if kv.1=k then (kv.1,y) else kv) (vs.map fun kv=>if kv.1=k then (kv.1,u) else kv):=by
 unfold KV at r ⊢
 induction r with
 | nil=>exact .nil
 | @cons p q ps qs h t ih=>
  rw[List.map_cons,List.map_cons]
  refine .cons ?_ ih
  obtain⟨h1,h2⟩:=h
  by_cases e:p.1=k
  ·rw[if_pos e,if_pos (h1.symm.trans e)];exact⟨h1,ry⟩
  ·rw[if_neg e,if_neg (fun z=>e (h1.trans z))];exact⟨h1,h2⟩
theorem KV.put {kvs:List (κ×V)}{vs:List (κ×Value)}(r:KV kvs vs)(k:κ){y:V}{u:Value}(ry:RelV y u):KV (putK kvs k y) (stored vs k u):=by
 unfold putK stored
 rw[r.any k]
 by_cases e:(vs.any fun kv=>decide (kv.1=k))=true
 ·rw[if_pos e,if_pos e];exact r.repl k ry
 ·rw[if_neg e,if_neg e];exact Paired.snoc r ⟨rfl,ry⟩
theorem KV.keys {kvs:List (κ×V)}{vs:List (κ×Value)}(r:KV kvs vs):kvs.map (·.1)=vs.map (·.1):=by
 unfold KV at r
 induction r with
 | nil=>rfl
 | cons h t ih=>rw[List.map_cons,List.map_cons,ih,h.1]
theorem KV.length {kvs:List (κ×V)}{vs:List (κ×Value)}(r:KV kvs vs):kvs.length=vs.length:=Paired.length r
end
theorem kV_is {P:Program}{w:World}{k:Key}{u:Value}(r:RelV (kV k) u):(mixKind P w).is k u=true:=by
 cases k with
 | inl i=>obtain⟨t,e⟩:=(show ∃t,u=Value.int i t from r);subst e;exact mixKind_int P w i t
 | inr x=>obtain⟨t,e⟩:=(show ∃t,u=Value.str x t from r);subst e;exact mixKind_str P w x t
theorem items_are {P:Program}{w:World}:∀ {ks:List Key} {us:List Value},Vals (ks.map kV) us→ItemsAre (mixKind P w) ks us
 | [],_,r=>by rw[List.map_nil]at r;cases r;exact .nil
 | k::ks,_,r=>by
  rw[List.map_cons]at r
  cases r with
  | cons h t=>exact .cons (kV_is h) (items_are t)
abbrev KT (H:Hp):List (List Key×V)→List (List Key×Addr×Value)→Prop:=Paired fun p q=>p.1=q.1∧H q.2.1=some (.tup (p.1.map kV))∧RelV p.2 q.2.2
theorem KT.val {H:Hp}{kvs:List (List Key×V)}{xs:List (List Key×Addr×Value)}(r:KT H kvs xs)(k:List Key):RelO (valV kvs k) ((atKey xs k).map (·.2)):=by
 induction r with
 | nil=>exact True.intro
 | @cons p q ps qs h t ih=>
  obtain⟨h1,_,h2⟩:=h
  by_cases e:p.1=k
  ·have e':q.1=k:=h1.symm.trans e
   have b:atKey (q::qs) k=some q.2:=by simp[atKey,List.find?_cons,e']
   rw[valV_pos e,b];exact h2
  ·have e':¬q.1=k:=fun z=>e (h1.trans z)
   have b:atKey (q::qs) k=atKey qs k:=by simp[atKey,List.find?_cons,e']
   rw[valV_neg e,b];exact ih
theorem KT.repl {H:Hp}{kvs:List (List Key×V)}{xs:List (List Key×Addr×Value)}(r:KT H kvs xs)(k:List Key){y:V}{u:Value}(ry:RelV y u):
  KT H (kvs.map fun kv=>if kv.1=k then (kv.1,y) else kv) (xs.map (putAt k u)):=by
 induction r with
 | nil=>exact .nil
 | @cons p q ps qs h t ih=>
  rw[List.map_cons,List.map_cons]
  refine .cons ?_ ih
  obtain⟨h1,h2,h3⟩:=h
  unfold putAt
  by_cases e:p.1=k
  ·rw[if_pos e,if_pos (h1.symm.trans e)];exact⟨h1,h2,ry⟩
  ·rw[if_neg e,if_neg (fun z=>e (h1.trans z))];exact⟨h1,h2,h3⟩
theorem KT.put {H:Hp}{kvs:List (List Key×V)}{xs:List (List Key×Addr×Value)}(r:KT H kvs xs)(k:List Key){b:Addr}{y:V}{u:Value}(hb:H b=some (.tup (k.map kV)))(ry:RelV y u):
  KT H (putK kvs k y) (storedH xs k b u):=by
 have e:(kvs.any fun kv=>decide (kv.1=k))=(atKey xs k).isSome:=by
  rw[valV_any,(r.val k).isSome_eq,Option.isSome_map]
 unfold putK storedH
 rw[e]
 by_cases q:(atKey xs k).isSome=true
 ·rw[if_pos q,if_pos q];exact r.repl k ry
 ·rw[if_neg q,if_neg q];exact Paired.snoc r ⟨rfl,hb,ry⟩
theorem KT.keeps {H H':Hp}{kvs:List (List Key×V)}{xs:List (List Key×Addr×Value)}(r:KT H kvs xs)(ht:∀b ys,H b=some (.tup ys)→H' b=some (.tup ys)):KT H' kvs xs:=
 Paired.mapP r fun _ _ z=>⟨z.1,ht _ _ z.2.1,z.2.2⟩
section
variable {P:Program}{w:World}{H:Hp}{h:Heap}{a:Addr}
theorem rd_of {u:HO}(ok:HOk P w H h)(e:Rd H a u):ObjOk P w H h a u:=e.ok ok
theorem dk_rd {kvs:List (Key×V)}(ok:HOk P w H h)(e:Rd H a (.dK kvs)):kvs.length≤sizeLine∧(a == sysModules)=false∧∃vs,KV kvs vs∧h.DictOf (mixKind P w) a vs:=
 show ObjOk P w H h a (.dK kvs) from rd_of ok e
theorem dk_of {kvs:List (Key×V)}(ok:HOk P w H h)(e:H a=some (.dK kvs)):kvs.length≤sizeLine∧(a == sysModules)=false∧∃vs,KV kvs vs∧h.DictOf (mixKind P w) a vs:=dk_rd ok (.inl e)
theorem key_of {ks:List Key}(ok:HOk P w H h)(e:H a=some (.tup (ks.map kV))):(tupleKind (mixKind P w)).is h ks a:=by
 obtain⟨_,its,r,o,h1,h2,n,h3⟩:=(show ObjOk P w H h a (.tup (ks.map kV)) from ok a _ e)
 exact⟨o,its.toArray,n,h1,h2,h3,by simpa using items_are r⟩
theorem dt_rd {kvs:List (List Key×V)}(ok:HOk P w H h)(e:Rd H a (.dT kvs)):kvs.length≤sizeLine∧(a == sysModules)=false ∧
  ∃xs,KT H kvs xs∧h.DictOfH (tupleKind (mixKind P w)) a xs:=by
 obtain⟨z,y,xs,r,o,es,ep,h1,h2,h3,h4,h5⟩:=(show ObjOk P w H h a (.dT kvs) from rd_of ok e)
 refine⟨z,y,xs,r,o,es,ep,h1,h2,h3,h4,fun x hx=>?_,h5⟩
 have all:∀ {l:List (List Key×V)} {m:List (List Key×Addr×Value)},KT H l m→∀x∈m,(tupleKind (mixKind P w)).is h x.1 x.2.1:=by
  intro l m q
  induction q with
  | nil=>intro x hx;exact nomatch hx
  | @cons p q ps qs hq t ih=>
   intro x hx
   rcases List.mem_cons.mp hx with e | hx
   ·subst e
    exact key_of ok (by rw[←hq.1];exact hq.2.1)
   ·exact ih x hx
 exact all r x hx
theorem dt_of {kvs:List (List Key×V)}(ok:HOk P w H h)(e:H a=some (.dT kvs)):kvs.length≤sizeLine∧(a == sysModules)=false ∧
  ∃xs,KT H kvs xs∧h.DictOfH (tupleKind (mixKind P w)) a xs:=dt_rd ok (.inl e)
end
def DGet (H:Hp)(a:Addr)(y:V)(r:Option V):Prop:=
 (∃kvs k,Rd H a (.dK kvs)∧y=kV k∧r=valV kvs k)∨∃kvs k b,Rd H a (.dT kvs)∧y=.ref b∧H b=some (.tup (k.map kV))∧r=valV kvs k
def DPut (H:Hp)(a:Addr)(y v:V)(H':Hp):Prop:=
 (∃kvs k,H a=some (.dK kvs)∧y=kV k∧kvs.length<sizeLine∧H'=upd H a (.dK (putK kvs k v))) ∨
 ∃kvs k b,H a=some (.dT kvs)∧y=.ref b∧H b=some (.tup (k.map kV))∧kvs.length<sizeLine∧H'=upd H a (.dT (putK kvs k v))
theorem DGet.k {H:Hp}{a:Addr}{kvs:List (Key×V)}{k:Key}(e:H a=some (.dK kvs)):DGet H a (kV k) (valV kvs k):=.inl ⟨kvs,k,.inl e,rfl,rfl⟩
theorem DGet.t {H:Hp}{a b:Addr}{kvs:List (List Key×V)}{k:List Key}(e:H a=some (.dT kvs))(eb:H b=some (.tup (k.map kV))):DGet H a (.ref b) (valV kvs k):=.inr ⟨kvs,k,b,.inl e,rfl,eb,rfl⟩
theorem DPut.k {H:Hp}{a:Addr}{kvs:List (Key×V)}{k:Key}{v:V}(e:H a=some (.dK kvs))(hl:kvs.length<sizeLine):DPut H a (kV k) v (upd H a (.dK (putK kvs k v))):=.inl ⟨kvs,k,e,rfl,hl,rfl⟩
theorem DPut.t {H:Hp}{a b:Addr}{kvs:List (List Key×V)}{k:List Key}{v:V}(e:H a=some (.dT kvs))(eb:H b=some (.tup (k.map kV)))(hl:kvs.length<sizeLine):
  DPut H a (.ref b) v (upd H a (.dT (putK kvs k v))):=.inr ⟨kvs,k,b,e,rfl,eb,hl,rfl⟩
section
variable {X:Cx}{pins:List (Addr×Obj)}{σ:St}{H:Hp}{s:Shared}{a:Addr}{y v:V}{u r:Value}{o:Option V}{A:Around}{E:Value→Shared→Prop}
theorem Inv.big (I:Inv X pins σ H s):sysModules<s.heap.objs.size:=by
 have h:mainGlobals<s.heap.objs.size:=(I.mod.glob.keeps I.bk).lt
 exact Nat.lt_trans (by decide) h
theorem d_getItem {Q:Value→Shared→Prop}(hu:A.units+1<cLine)(I:Inv X pins σ H s)(g:DGet H a y (some v))(ry:RelV y u)(h:∀w' s',Inv X pins σ H s'→RelV v w'→Q w' s'):
  wpAny (model X.prog X.w) A (getItem (.ref a) u) Q E s:=by
 rcases g with⟨kvs,k,e,ey,l⟩|⟨kvs,k,b,e,ey,eb,l⟩
 ·subst ey
  obtain⟨z,hd,vs,rel,dd⟩:=dk_rd I.hok e
  obtain⟨w',hw,rw'⟩:=RelO.some_of (v:=v) (o:=valueAt vs k) (by rw[l];exact rel.val k)
  exact wpAny_getItem_of (kV_is ry) dd.mapOf hw (h w' _ (I.tok _) rw')
 ·subst ey
  cases (show u=Value.ref b from ry)
  obtain⟨z,hd,xs,rel,dd⟩:=dt_rd I.hok e
  obtain⟨w',hw,rw'⟩:=RelO.some_of (v:=v) (o:=(atKey xs k).map (·.2)) (by rw[l];exact rel.val k)
  obtain⟨p,hp,hp2⟩:=Option.map_eq_some_iff.mp hw
  refine wpAny_getItem_heap (tupleKind_room_in1 hu) (key_of I.hok eb) dd hp ?_
  rw[hp2]
  exact h w' _ (I.tok _) rw'
theorem d_notIn {Q:Value→Shared→Prop}(hu:A.units+1<cLine)(I:Inv X pins σ H s)(g:DGet H a y o)(ry:RelV y u)(h:∀s',Inv X pins σ H s'→Q (.bool (!o.isSome)) s'):
  wpAny (model X.prog X.w) A (compareOp .NotIn u (.ref a)) Q E s:=by
 rcases g with⟨kvs,k,e,ey,l⟩|⟨kvs,k,b,e,ey,eb,l⟩
 ·subst ey
  obtain⟨z,hd,vs,rel,dd⟩:=dk_rd I.hok e
  refine wpAny_notIn_of (kV_is ry) hd dd.mapOf ?_
  rw[←(rel.val k).isSome_eq,←l]
  exact h _ (I.tok _)
 ·subst ey
  cases (show u=Value.ref b from ry)
  obtain⟨z,hd,xs,rel,dd⟩:=dt_rd I.hok e
  refine wpAny_notIn_heap (tupleKind_room_in1 hu) (key_of I.hok eb) hd dd ?_
  have q:=(rel.val k).isSome_eq
  rw[Option.isSome_map]at q
  rw[←q,←l]
  exact h _ (I.tok _)
theorem d_write {h':Heap}{t':Nat}{ob:HO}(I:Inv X pins σ H s)(mu:Mut (H a))(hs:Heap.SameBut a s.heap h')(he:∃q,h'.get? a=some q)(new:ObjOk X.prog X.w (upd H a ob) h' a ob):
  Inv X pins σ (upd H a ob) { s with heap:=h',toks:=t' }:=
 I.write (x:=a) (e:=a) mu (.inl rfl) (fun b q hb z=>(hs.2 b hb).trans z) he new
theorem dk_new {P:Program}{w:World}{H':Hp}{h':Heap}{kvs:List (Key×V)}{vs:List (Key×Value)}(z:kvs.length≤sizeLine)(hd:(a == sysModules)=false)(rel:KV kvs vs)(dd:h'.DictOf (mixKind P w) a vs):
  ObjOk P w H' h' a (.dK kvs):=⟨z,hd,vs,rel,dd⟩
theorem d_setItem {H':Hp}{Q:Unit→Shared→Prop}(hu:A.units+1<cLine)(I:Inv X pins σ H s)(g:DPut H a y v H')(ry:RelV y u)(rv:RelV v r)(h:∀s',Inv X pins σ H' s'→Q () s'):
  wpAny (model X.prog X.w) A (setItem (.ref a) u r) Q E s:=by
 rcases g with⟨kvs,k,e,ey,l,eH⟩|⟨kvs,k,b,e,ey,eb,l,eH⟩
 ·subst ey eH
  obtain⟨z,hd,vs,rel,dd⟩:=dk_of I.hok e
  have hz:vs.length≤sizeLine:=by rw[←rel.length];exact z
  have hl:(putK kvs k v).length≤sizeLine:=by have:=length_putK kvs k v;omega
  refine wpAny_setItem_pairs (hsz:=hz) (kV_is ry) dd fun h' dd' hs=>h _ ?_
  have he:∃q,h'.get? a=some q:=let ⟨q,_,_,hq,_⟩:=dd';⟨q,hq⟩
  exact d_write I (by rw[e];exact True.intro) hs he (dk_new hl hd (rel.put k rv) dd')
 ·subst ey eH
  cases (show u=Value.ref b from ry)
  obtain⟨z,hd,xs,rel,dd⟩:=dt_of I.hok e
  have hz:xs.length≤sizeLine:=by rw[←Paired.length rel];exact z
  have hl:(putK kvs k v).length≤sizeLine:=by have:=length_putK kvs k v;omega
  refine wpAny_setItem_heap (hsz:=hz) (tupleKind_room_in1 hu) (key_of I.hok eb) dd fun h' dd' hs=>h _ ?_
  obtain⟨q,es,ep,hq,h2,h3,h4,_,h5⟩:=dd'
  refine d_write I (by rw[e];exact True.intro) hs ⟨q,hq⟩ ⟨hl,hd,_,(rel.put k eb rv).keeps fun c ys ec=>?_,q,es,ep,hq,h2,h3,h4,h5⟩
  rw[upd_ne (ne_of ec e (fun z=>nomatch z))]
  exact ec
end
section
variable {X:Cx}{pins:List (Addr×Obj)}{σ:St}{H:Hp}{s:Shared}{a:Addr}{kvs:List (Key×V)}{k:Key}{u:Value}{A:Around}{E:Value→Shared→Prop}
theorem d_len {Q:Value→Shared→Prop}(I:Inv X pins σ H s)(e:Rd H a (.dK kvs))(h:∀t s',Inv X pins σ H s'→Q (.int kvs.length t) s'):wpAny (model X.prog X.w) A (call (.builtin "len") [.ref a]) Q E s:=by
 obtain⟨z,hd,vs,rel,dd⟩:=dk_rd I.hok e
 refine call_len_dict hd dd (by rw[←rel.length];rw[sizeLine_eq]at z;omega) ?_
 rw[←rel.length]
 exact h _ _ (I.tok _)
end
def NoSl (i:Expr):Prop:=∀ov iv,subscripted i false ov iv=operate [ov,iv] (getItem ov iv)
theorem subD_of {prog:Program}{w:World}{A:Around}{E:Value→Shared→Prop}{s:Shared}{env:Env}{value slice:Expr}{pos:Pos}{T id:String}{Q:Value→Shared→Prop}
  (hl:typeLookup (.type T) "__getitem__"=pure (some (.builtin id))) (hs:NoSl slice)
  (h:wpAny (model prog w) A (eval value env) (fun o s₁=>wpAny (model prog w) A (eval slice env) (fun i s₂=>s₂.TypeIs o T∧wpAny (model prog w) A (getItem o i) Q E s₂) E s₁) E s):
  wpAny (model prog w) A (eval (.Subscript value slice pos) env) Q E s:=by
 refine Subscript_ (wpAny_mono h (fun o s₁ h₁=>wpAny_mono h₁ (fun i s₂ h₂=>?_) fun _ _ x=>x) fun _ _ x=>x)
 obtain⟨hT,h₂⟩:=h₂
 unfold subscriptTail
 refine wpAny_bind ?_
 rw[getitemInPython_of_ne hT.not_modules]
 refine wpAny_bind (wpAny_specialOf hT hl ?_)
 have fin:wpAny (model prog w) A (subscripted slice false o i) (fun r s₃=>wpAny (model prog w) A (letTemporaryGo value o r >>= fun _=>pure r) Q E s₃) E s₂:=by
  rw[hs o i]
  exact wpAny_operating (wpAny_mono h₂ (fun r s₃ h₃=>wpAny_bind (wpAny_letTemporaryGo (wpAny_pure h₃))) fun _ _ x=>x)
 first
  | exact wpAny_pure (wpAny_bind fin)
  | exact wpAny_bind (wpAny_pure (wpAny_bind fin))
  | exact wpAny_bind fin
theorem dict_typeIs {X:Cx}{pins:List (Addr×Obj)}{σ:St}{H:Hp}{s:Shared}{a:Addr}{y:V}{o:Option V}(I:Inv X pins σ H s)(g:DGet H a y o):s.TypeIs (.ref a) "dict":=by
 rcases g with⟨kvs,k,e,_,_⟩|⟨kvs,k,b,e,_,_,_⟩
 ·obtain⟨_,_,vs,_,dd⟩:=dk_rd I.hok e
  exact dd.typeIs
 ·obtain⟨_,_,xs,_,dd⟩:=dt_rd I.hok e
  exact dd.typeIs
def tDGet (td ty:TE):TE:=fun σ H Q=>td σ H fun x H1=>ty σ H1 fun y H2=>∃a v,x=.ref a∧DGet H2 a y (some v)∧Q v H2
def tDIn (ty td:TE):TE:=fun σ H Q=>ty σ H fun y H1=>td σ H1 fun x H2=>∃a o,x=.ref a∧DGet H2 a y o∧Q (.bl o.isSome) H2
def tDNotIn (ty td:TE):TE:=fun σ H Q=>ty σ H fun y H1=>td σ H1 fun x H2=>∃a o,x=.ref a∧DGet H2 a y o∧Q (.bl (!o.isSome)) H2
def sDPut (td ty tv:TE):TS:=fun D σ H=>tv σ H fun v H1=>td σ H1 fun x H2=>ty σ H2 fun y H3=>∃a H4,x=.ref a∧DPut H3 a y v H4∧D.nx σ H4
section
variable {X:Cx}{o i e value:Expr}{pos pos' tpos:Pos}{td ty tv:TE}
theorem pe_dget (hu:X.A.units+1<cLine)(ho:PE X o td)(hi:PE X i ty)(hs:NoSl i):PE X (.Subscript o i pos) (tDGet td ty):=by
 intro pins s σ H Q I h
 refine subD_of PySem.F.slot_dict_getitem.lookup hs (thn (ho pins s σ H _ I h) fun u s1 ⟨x,H1,I1,rx,q1⟩=>thn (hi pins s1 σ H1 _ I1 q1) fun iv s2 ⟨y,H2,I2,ry,a,v,ex,g,q2⟩=>?_)
 subst ex
 obtain rfl:u=Value.ref a:=rx
 exact⟨dict_typeIs I2 g,d_getItem hu I2 g ry fun w' s3 I3 rw'=>⟨v,H2,I3,rw',q2⟩⟩
theorem pc_dnotin (hu:X.A.units+1<cLine)(hi:PE X i ty)(ho:PE X o td):PC X .NotIn i o (tDNotIn ty td):=by
 intro pins s σ H Q I h
 refine thn (hi pins s σ H _ I h) fun iv s1 ⟨y,H1,I1,ry,q1⟩=>thn (ho pins s1 σ H1 _ I1 q1) fun u s2 ⟨x,H2,I2,rx,a,ov,ex,g,q2⟩=>?_
 subst ex
 obtain rfl:u=Value.ref a:=rx
 exact d_notIn hu I2 g ry fun s3 I3=>⟨.bl (!ov.isSome),H2,I3,rfl,q2⟩
theorem ps_dput (hu:X.A.units+1<cLine)(ho:PE X o td)(hi:PE X i ty)(hv:PE X value tv)(hs:swapsWith value (some (.Subscript o i pos')) pos.line X.env=pure false):
  PS X (.Assign [.Subscript o i pos'] value pos) (sDPut td ty tv):=by
 intro pins s σ H D I h
 refine wpAny_Assign_Subscript (thn (hv pins s σ H _ I h) fun r s1 ⟨v,H1,I1,rv,q1⟩=>thn (ho pins s1 σ H1 _ I1 q1) fun u s2 ⟨x,H2,I2,rx,q2⟩=>thn (hi pins s2 σ H2 _ I2 q2) fun iv s3 ⟨y,H3,I3,ry,a,H4,ex,g,q3⟩=>?_) hs
 subst ex
 obtain rfl:u=Value.ref a:=rx
 exact d_setItem hu I3 g ry rv fun s4 I4=>⟨σ,H4,I4,q3⟩
end
theorem dk_empty {P:Program}{w:World}{H:Hp}(h:Heap)(hb:sysModules<h.objs.size):ObjOk P w H (h.push { cls:=.type "dict",data:=.dict #[] }) h.objs.size (.dK []):=
 ⟨Nat.zero_le _,beq_eq_false_iff_ne.mpr (Ne.symm (Nat.ne_of_lt hb)),[],.nil,Heap.DictOf.new h⟩
theorem dt_empty {P:Program}{w:World}{H:Hp}(h:Heap)(hb:sysModules<h.objs.size):ObjOk P w H (h.push { cls:=.type "dict",data:=.dict #[] }) h.objs.size (.dT []):=
 ⟨Nat.zero_le _,beq_eq_false_iff_ne.mpr (Ne.symm (Nat.ne_of_lt hb)),[],.nil,_,#[],0,Heap.get?_push_size _ rfl,⟨rfl,rfl,rfl⟩,rfl,rfl,List.nodup_nil⟩
def tDNewK:TE:=fun _ H Q=>∀p,H p=none→Q (.ref p) (upd H p (.dK []))
section
variable {X:Cx}{pos:Pos}
theorem pe_dnewK:PE X (.Dict [] [] pos) tDNewK:=fun pins s σ H Q I h=>
 wpAny_Dict_empty ⟨.ref s.heap.objs.size,_,I.laid (a:=s.heap.objs.size) (o:=.dK []) (t':=s.toks) (fun _ _ q=>Heap.get?_push_of_some _ q) (Nat.le_refl _) (dk_empty s.heap I.big),rfl,h _ (I.hok.fresh (Nat.le_refl _))⟩
end
def tPairs:List (TE×TE)→St→Hp→(List (V×V)→Hp→Prop)→Prop
 | [],_,H,Q=>Q [] H
 | (tk,tv)::r,σ,H,Q=>tk σ H fun x H1=>tv σ H1 fun y H2=>tPairs r σ H2 fun ps H3=>Q ((x,y)::ps) H3
abbrev VV:List (V×V)→List (Value×Value)→Prop:=Paired fun p q=>RelV p.1 q.1∧RelV p.2 q.2
def PPs (X:Cx)(pos:Pos)(keys:List (Option Expr))(values:List Expr)(trs:List (TE×TE)):Prop:=
 ∀(pins:List (Addr×Obj)) (s:Shared) (σ:St) (H:Hp) (Q:List (V×V)→Hp→Prop),Inv X pins σ H s→tPairs trs σ H Q →
  wpAny (model X.prog X.w) X.A (evalPairs (pairTrees keys values X.env pos)) (fun vs s'=>∃ps H',Inv X pins σ H' s'∧VV ps vs∧Q ps H') X.xe s
theorem pps_nil {X:Cx}{pos:Pos}:PPs X pos [] [] []:=fun pins s σ H Q I h=>pairTrees_nil_walk ⟨[],H,I,.nil,h⟩
theorem pps_cons {X:Cx}{pos:Pos}{k v:Expr}{ks:List (Option Expr)}{vs:List Expr}{tk tv:TE}{trs:List (TE×TE)}(hk:PE X k tk)(hv:PE X v tv)(hr:PPs X pos ks vs trs):
  PPs X pos (some k::ks) (v::vs) ((tk,tv)::trs):=fun pins s σ H Q I h=>
 pairTrees_cons_walk (thn (hk pins s σ H _ I h) fun u s1 ⟨x,H1,I1,rx,q1⟩=>thn (hv pins s1 σ H1 _ I1 q1) fun w2 s2 ⟨y,H2,I2,ry,q2⟩=>
  thn (hr pins s2 σ H2 _ I2 q2) fun ws s3 ⟨ps,H3,I3,rel,q3⟩=>⟨(x,y)::ps,H3,I3,.cons ⟨rx,ry⟩ rel,q3⟩)
def mergeK (kvs more:List (Key×V)):List (Key×V):=more.foldl (fun acc kv=>putK acc kv.1 kv.2) kvs
theorem KV.merge:∀ {more:List (Key×V)} {rs:List (Key×Value)} {kvs:List (Key×V)} {vs:List (Key×Value)},KV more rs→KV kvs vs→KV (mergeK kvs more) (merged vs rs):=by
 intro more rs kvs vs r
 unfold KV at r
 induction r generalizing kvs vs with
 | nil=>intro q;exact q
 | @cons p q ps qs h t ih=>
  intro r0
  have e:KV (putK kvs p.1 p.2) (stored vs q.1 q.2):=by
   have:=r0.put p.1 h.2
   rw[←h.1];exact this
  exact ih e
theorem length_mergeK:∀(more kvs:List (Key×V)),(mergeK kvs more).length≤kvs.length+more.length
 | [],kvs=>by show kvs.length≤kvs.length+0;omega
 | p::r,kvs=>by
  have h1:=length_mergeK r (putK kvs p.1 p.2)
  have h2:=length_putK kvs p.1 p.2
  show (mergeK (putK kvs p.1 p.2) r).length≤_
  rw[List.length_cons];omega
theorem carries_of {P:Program}{w:World}:∀ {kvs:List (Key×V)} {ws:List (Value×Value)},VV (kvs.map fun kv=>(kV kv.1,kv.2)) ws→∃rs,Carries (mixKind P w) ws rs∧KV kvs rs
 | [],_,r=>by rw[List.map_nil]at r;cases r;exact⟨[],True.intro,.nil⟩
 | p::kvs,_,r=>by
  rw[List.map_cons]at r
  cases r with
  | @cons a b as bs h t=>
   obtain⟨rs,c,q⟩:=carries_of (P:=P) (w:=w) t
   obtain⟨b1,b2⟩:=b
   exact⟨(p.1,b2)::rs,⟨kV_is h.1,rfl,c⟩,.cons ⟨rfl,h.2⟩ q⟩
def tDisp (trs:List (TE×TE)):TE:=fun σ H Q=>∀p,H p=none→tPairs trs σ (upd H p (.dK [])) fun ps H2=>H2 p=some (.dK [])∧∃kvs:List (Key×V),ps=kvs.map (fun kv=>(kV kv.1,kv.2))∧kvs.length≤15∧Q (.ref p) (upd H2 p (.dK (mergeK [] kvs)))
theorem pe_disp {X:Cx}{pos:Pos}{keys:List (Option Expr)}{values:List Expr}{trs:List (TE×TE)}(h:PPs X pos keys values trs)(hall:keys.all (·.isSome)=true)(hl:keys.length=values.length)(h0:keys≠[])
  (h15:keys.length≤15):PE X (.Dict keys values pos) (tDisp trs):=by
 intro pins s σ H Q I q
 have hn:=I.hok.fresh (Nat.le_refl s.heap.objs.size)
 have I1:=I.laid (a:=s.heap.objs.size) (o:=.dK []) (h':=s.heap.push { cls:=.type "dict",data:=.dict #[] }) (t':=s.toks) (fun _ _ q=>Heap.get?_push_of_some _ q) (Nat.le_refl _) (dk_empty s.heap I.big)
 refine wpAny_Dict_walk (knd:=mixKind X.prog X.w) hall hl h0 h15 (thn (h pins _ σ _ _ I1 (q _ hn)) fun ws s2 ⟨ps,H2,I2,rel,e,kvs,ep,lk,q2⟩=>?_)
 subst ep
 obtain⟨rs,c,rk⟩:=carries_of (P:=X.prog) (w:=X.w) rel
 obtain⟨z,hd,vs0,r0,dd⟩:=dk_of I2.hok e
 cases r0
 refine⟨rs,c,dd,fun h' dd' hs=>⟨.ref s.heap.objs.size,_,?_,rfl,q2⟩⟩
 have hz:(mergeK [] kvs).length≤sizeLine:=by
  have h1:=length_mergeK kvs []
  rw[List.length_nil]at h1
  rw[sizeLine_eq];omega
 have he:∃q,h'.get? s.heap.objs.size=some q:=let ⟨q,_,_,hq,_⟩:=dd';⟨q,hq⟩
 exact d_write I2 (by rw[e];exact True.intro) hs he (dk_new hz hd (rk.merge .nil) dd')
structure M1 (X:Cx)(o:Expr)(m:Str)(apos:Pos)(e:Expr)(cpos:Pos):Prop where
 base:attributeBase o m X.env (eval o X.env)=eval o X.env
 few:((backTo cpos (starEach [e] X.env)).all (fun x=>!x.1)&&(backToKw cpos (keywordEach [] X.env)).all (fun x=>x.1.isSome)
  && decide (([e]:List Expr).length+([]:List Keyword).length+(if ([]:List Keyword).isEmpty then 0 else 1)<30))=true
 line:(apos.endLine == cpos.line)=true
 trees:backTo cpos (starEach [e] X.env)=[(false,eval e X.env)]
structure M2 (X:Cx)(o:Expr)(m:Str)(apos:Pos)(e f:Expr)(cpos:Pos):Prop where
 base:attributeBase o m X.env (eval o X.env)=eval o X.env
 few:((backTo cpos (starEach [e,f] X.env)).all (fun x=>!x.1)&&(backToKw cpos (keywordEach [] X.env)).all (fun x=>x.1.isSome)
  && decide (([e,f]:List Expr).length+([]:List Keyword).length+(if ([]:List Keyword).isEmpty then 0 else 1)<30))=true
 line:(apos.endLine == cpos.line)=true
 trees:backTo cpos (starEach [e,f] X.env)=[(false,eval e X.env),(false,eval f X.env)]
def IsD (H:Hp)(a:Addr):Prop:=(∃kvs,Rd H a (.dK kvs))∨∃kvs,Rd H a (.dT kvs)
theorem isD_at {X:Cx}{pins:List (Addr×Obj)}{σ:St}{H:Hp}{s:Shared}{a:Addr}(I:Inv X pins σ H s)(d:IsD H a):
  s.TypeIs (.ref a) "dict"∧(∀b,Value.ref a=.ref b→∃ob,s.heap.get? b=some ob∧ob.dict=none)∧(a == sysModules)=false:=by
 rcases d with⟨kvs,e⟩|⟨kvs,e⟩
 ·obtain⟨_,hd,vs,_,dd⟩:=dk_rd I.hok e
  refine⟨dd.typeIs,fun b q=>?_,hd⟩
  cases q
  obtain⟨ob,_,_,h1,h2,_⟩:=dd
  exact⟨ob,h1,h2.2.1⟩
 ·obtain⟨_,hd,xs,_,dd⟩:=dt_rd I.hok e
  refine⟨dd.typeIs,fun b q=>?_,hd⟩
  cases q
  obtain⟨ob,_,_,h1,h2,_⟩:=dd
  exact⟨ob,h1,h2.2.1⟩
section
variable {X:Cx}{pins:List (Addr×Obj)}{σ:St}{H:Hp}{s:Shared}{a:Addr}{y d:V}{u r:Value}{o:Option V}{A:Around}{E:Value→Shared→Prop}
theorem d_get1 {Q:Value→Shared→Prop}(hu:A.units+1<cLine)(I:Inv X pins σ H s)(g:DGet H a y o)(ry:RelV y u)(h:∀w' s',Inv X pins σ H s'→RelV (o.getD .non) w'→Q w' s'):
  wpAny (model X.prog X.w) A (call (.builtin "dict.get") [.ref a,u]) Q E s:=by
 rcases g with⟨kvs,k,e,ey,l⟩|⟨kvs,k,b,e,ey,eb,l⟩
 ·subst ey
  obtain⟨z,hd,vs,rel,dd⟩:=dk_rd I.hok e
  refine call_meetsIn PySem.F.slot_dict_get dd.typeIs PySem.F.entry_dict_get (PySem.F.args_dict_get_2 _ _) (meets_dict_get (mixKind X.prog X.w) a (kV_is ry) hd) ⟨_,dd.mapOf,h _ _ (I.tok _) ?_⟩
  rw[l]
  exact(rel.val k).getD rfl
 ·subst ey
  cases (show u=Value.ref b from ry)
  obtain⟨z,hd,xs,rel,dd⟩:=dt_rd I.hok e
  refine call_meetsIn PySem.F.slot_dict_get dd.typeIs PySem.F.entry_dict_get (PySem.F.args_dict_get_2 _ _) (meetsH_dict_get (tupleKind (mixKind X.prog X.w)) a b hd) ⟨tupleKind_room_in1 hu,k,xs,key_of I.hok eb,dd,h _ _ (I.tok _) ?_⟩
  rw[l]
  exact(rel.val k).getD rfl
theorem d_get2 {Q:Value→Shared→Prop}(hu:A.units+1<cLine)(I:Inv X pins σ H s)(g:DGet H a y o)(ry:RelV y u)(rd:RelV d r)(h:∀w' s',Inv X pins σ H s'→RelV (o.getD d) w'→Q w' s'):
  wpAny (model X.prog X.w) A (call (.builtin "dict.get") [.ref a,u,r]) Q E s:=by
 rcases g with⟨kvs,k,e,ey,l⟩|⟨kvs,k,b,e,ey,eb,l⟩
 ·subst ey
  obtain⟨z,hd,vs,rel,dd⟩:=dk_rd I.hok e
  refine call_meetsIn PySem.F.slot_dict_get dd.typeIs PySem.F.entry_dict_get (PySem.F.args_dict_get_3 _ _ _) (meets_dict_get_default (mixKind X.prog X.w) a (kV_is ry) hd r) ⟨_,dd.mapOf,h _ _ (I.tok _) ?_⟩
  rw[l]
  exact(rel.val k).getD rd
 ·subst ey
  cases (show u=Value.ref b from ry)
  obtain⟨z,hd,xs,rel,dd⟩:=dt_rd I.hok e
  refine call_meetsIn PySem.F.slot_dict_get dd.typeIs PySem.F.entry_dict_get (PySem.F.args_dict_get_3 _ _ _) (meetsH_dict_get_default (tupleKind (mixKind X.prog X.w)) a b hd r) ⟨tupleKind_room_in1 hu,k,xs,key_of I.hok eb,dd,h _ _ (I.tok _) ?_⟩
  rw[l]
  exact(rel.val k).getD rd
end
def tDGet1 (td ty:TE):TE:=fun σ H Q=>td σ H fun x H1=>∃a,x=.ref a∧IsD H1 a∧ty σ H1 fun y H2=>∃o,DGet H2 a y o∧Q (o.getD .non) H2
def tDGet2 (td ty tx:TE):TE:=fun σ H Q=>td σ H fun x H1=>∃a,x=.ref a∧IsD H1 a∧ty σ H1 fun y H2=>tx σ H2 fun z H3=>∃o,DGet H3 a y o∧Q (o.getD z) H3
section
variable {X:Cx}{o e f:Expr}{apos cpos:Pos}{td ty tx:TE}
theorem pe_dget1 (hu:X.A.units+1<cLine) (ho:PE X o td) (he:PE X e ty) (m:M1 X o "get" apos e cpos):PE X (.Call (.Attribute o "get" apos) [e] [] cpos) (tDGet1 td ty):=by
 intro pins s σ H Q I h
 refine wpAny_Call_method m.base m.few m.line PySem.F.plainAttrs_dict PySem.F.slot_dict_get PySem.F.type_dict_get (thn (ho pins s σ H _ I h) fun u s1 ⟨x,H1,I1,rx,a,ex,d,q1⟩=>?_)
 subst ex
 obtain rfl:u=Value.ref a:=rx
 obtain⟨t1,t2,_⟩:=isD_at I1 d
 refine⟨t1,t2,?_⟩
 rw[m.trees]
 refine Calls.callWith_builtin rfl (Calls.evalArgs_plain (Calls.spliced_cons (thn (he pins s1 σ H1 _ I1 q1) fun iv s2 ⟨y,H2,I2,ry,ov,g,q2⟩=>Calls.spliced_nil ?_)))
 exact d_get1 hu I2 g ry fun w' s3 I3 rw'=>⟨_,H2,I3,rw',q2⟩
theorem pe_dget2 (hu:X.A.units+1<cLine) (ho:PE X o td) (he:PE X e ty) (hf:PE X f tx) (m:M2 X o "get" apos e f cpos):PE X (.Call (.Attribute o "get" apos) [e,f] [] cpos) (tDGet2 td ty tx):=by
 intro pins s σ H Q I h
 refine wpAny_Call_method m.base m.few m.line PySem.F.plainAttrs_dict PySem.F.slot_dict_get PySem.F.type_dict_get (thn (ho pins s σ H _ I h) fun u s1 ⟨x,H1,I1,rx,a,ex,d,q1⟩=>?_)
 subst ex
 obtain rfl:u=Value.ref a:=rx
 obtain⟨t1,t2,_⟩:=isD_at I1 d
 refine⟨t1,t2,?_⟩
 rw[m.trees]
 refine Calls.callWith_builtin rfl (Calls.evalArgs_plain (Calls.spliced_cons (thn (he pins s1 σ H1 _ I1 q1) fun iv s2 ⟨y,H2,I2,ry,q2⟩=>
  Calls.spliced_cons (thn (hf pins s2 σ H2 _ I2 q2) fun fv s3 ⟨z,H3,I3,rz,ov,g,q3⟩=>Calls.spliced_nil ?_))))
 exact d_get2 hu I3 g ry rz fun w' s4 I4 rw'=>⟨_,H3,I4,rw',q3⟩
end
section
variable {X:Cx}{pins:List (Addr×Obj)}{σ:St}{H:Hp}{s:Shared}{a:Addr}{kvs:List (Key×V)}{A:Around}{E:Value→Shared→Prop}
end
section
variable {X:Cx}{pins:List (Addr×Obj)}{σ:St}{H:Hp}{s:Shared}{a:Addr}{y:V}{u:Value}{A:Around}{E:Value→Shared→Prop}
end
section
variable {X:Cx}
theorem call_lenD:CallR X (.builtin "len") (fun xs H Q=>∃a kvs,xs=[V.ref a]∧H a=some (.dK kvs)∧Q (.int kvs.length) H):=by
 intro pins s σ H xs us Q I r h
 obtain⟨a,kvs,rfl,ha,q⟩:=h
 obtain⟨u,rfl,ru⟩:=vals1 r
 cases ru
 exact d_len I (.inl ha) fun t s' I'=>⟨.int kvs.length,H,I',⟨t,rfl⟩,q⟩
end
section
variable {κ:Type}[DecidableEq κ]
end
def clOf (cells:List (Str×Addr)):List (Str×NameKind)→List (Str×Addr)→List (Str×Addr)
 | [],acc=>acc
 | (n,k)::r,acc=>if k == NameKind.free then clOf cells r ((n,(cells.lookup n).getD 0)::acc) else clOf cells r acc
theorem clOf_sub {cells:List (Str×Addr)}:∀(names:List (Str×NameKind)) (acc:List (Str×Addr)) (p:Str×Addr),p∈acc→p∈clOf cells names acc
 | [],_,_,h=>h
 | (n,k)::r,acc,p,h=>by
  unfold clOf
  split
  ·exact clOf_sub r _ p (List.mem_cons_of_mem _ h)
  ·exact clOf_sub r acc p h
theorem clOf_has {cells:List (Str×Addr)}{x:Str}:∀(names:List (Str×NameKind)) (acc:List (Str×Addr)),(x,NameKind.free)∈names→(x,(cells.lookup x).getD 0)∈clOf cells names acc
 | [],_,h=>by cases h
 | (n,k)::r,acc,h=>by
  unfold clOf
  rcases List.mem_cons.mp h with e | h
  ·have e1:x=n:=congrArg Prod.fst e
   have e2:NameKind.free=k:=congrArg Prod.snd e
   subst e1 e2
   exact clOf_sub r _ _ List.mem_cons_self
  ·split
   ·exact clOf_has r _ h
   ·exact clOf_has r _ h
theorem clOf_of {cells:List (Str×Addr)}:∀(names:List (Str×NameKind)) (acc:List (Str×Addr)) (p:Str×Addr),p∈clOf cells names acc→p∈acc∨((p.1,NameKind.free)∈names∧p.2=(cells.lookup p.1).getD 0)
 | [],_,_,h=>.inl h
 | (n,k)::r,acc,p,h=>by
  unfold clOf at h
  split at h
  ·rename_i hk
   have hk':k=NameKind.free:=by simpa using hk
   rcases clOf_of r _ p h with q | ⟨q,e⟩
   ·rcases List.mem_cons.mp q with q | q
    ·subst q;subst hk';exact .inr ⟨List.mem_cons_self,rfl⟩
    ·exact .inl q
   ·exact .inr ⟨List.mem_cons_of_mem _ q,e⟩
  ·rcases clOf_of r _ p h with q | ⟨q,e⟩
   ·exact .inl q
   ·exact .inr ⟨List.mem_cons_of_mem _ q,e⟩
theorem closure_is {sc:Scope}{env:Env}(h:∀y∈sc.names,y.2=NameKind.free→∃c,env.cells.lookup y.1=some c):closureFor sc env=pure (clOf env.cells sc.names []):=by
 have all:∀(names:List (Str×NameKind)) (acc:List (Str×Addr)),(∀y∈names,y.2=NameKind.free→∃c,env.cells.lookup y.1=some c) →
   (forIn names acc fun (y:Str×NameKind) (cs:List (Str×Addr))=>(if (y.2 == NameKind.free)=true then (do let a ←cellOf env y.1;pure (ForInStep.yield ((y.1,a)::cs))) else pure (ForInStep.yield cs):Sem (ForInStep (List (Str×Addr)))))=pure (clOf env.cells names acc):=by
  intro names
  induction names with
  | nil=>intro acc _;rfl
  | cons y r ih=>
   intro acc hy
   obtain⟨n,k⟩:=y
   rw[List.forIn_cons]
   unfold clOf
   by_cases hk:k=NameKind.free
   ·subst hk
    obtain⟨c,hc⟩:=hy (n,NameKind.free) List.mem_cons_self rfl
    have hc':env.cells.lookup n=some c:=hc
    simp only[beq_self_eq_true,if_true,cellOf,hc',pure_bind,Option.getD_some]
    exact ih _ fun z hz=>hy z (List.mem_cons_of_mem _ hz)
   ·have hb:(k == NameKind.free)=false:=by simpa using hk
    simp only[hb,Bool.false_eq_true,if_false,pure_bind]
    exact ih _ fun z hz=>hy z (List.mem_cons_of_mem _ hz)
 have q:=all sc.names [] h
 unfold closureFor
 show (forIn sc.names [] fun (y:Str×NameKind) (cs:List (Str×Addr))=>_) >>= _=_
 first
  | (rw[q];rfl)
  | (refine Eq.trans (congrArg (fun t=>t >>= fun cs=>pure cs) q) ?_;rfl)
structure CmpScope (X:Cx)(sc:Scope):Prop where
 kind:sc.kind=.function
 nocell:∀y∈sc.names,y.2≠NameKind.cell
 loc:∀y∈sc.names,y.2=NameKind.local→sc.names.lookup y.1=some .local
 clos:∀y∈sc.names,y.2=NameKind.free→(X.env.kindOf y.1=some .cell∨X.env.kindOf y.1=some .free)
def pick (ix:List (Option Nat))(σ:St):St:=ix.map fun o=>o.bind fun i=>(σ[i]?).join
def idxOk (N M:List Str)(sc:Scope)(ix:List (Option Nat)):Bool:=
 ix.length == N.length&&(N.zip ix).all fun p=>match p.2 with | none=>true | some i=>decide (M[i]?=some p.1)&&decide (sc.names.lookup p.1=some NameKind.free)
def bx (X:Cx)(sc:Scope)(N:List Str)(fp:List Addr)(s₀:Shared)(H:Hp)(pn:List (Addr×Obj)):Cx:=
 { X with N:=N,s₀:=s₀,H₀:=H,env:=compEnvC sc (clOf X.env.cells sc.names []) s₀.heap.objs.size X.env,outer:=X.stack,stack:=X.stack,ex:=fp,fn:=fun _=>false,pn:=pn,xe:=fun _ _=>False }
theorem relabel_mem {sc:Scope}{env:Env}{x:Str}{k:NameKind}(h:(relabel sc env).names.lookup x=some k):(x,k)∈sc.names∨(k=.cell∧(x,NameKind.free)∈sc.names):=by
 have m:=PySem.mem_of_lookup h
 unfold relabel at m
 obtain⟨⟨n,k'⟩,hm,e⟩:=List.mem_map.mp m
 dsimp only at e
 split at e
 ·rename_i hc
  have e1:n=x:=congrArg Prod.fst e
  have e2:NameKind.cell=k:=congrArg Prod.snd e
  have e3:k'=NameKind.free:=by
   rw[Bool.and_eq_true,Bool.and_eq_true]at hc
   simpa using hc.1.1
  subst e1 e2 e3
  exact .inr ⟨rfl,hm⟩
 ·have e1:n=x:=congrArg Prod.fst e
  have e2:k'=k:=congrArg Prod.snd e
  subst e1 e2
  exact .inl hm
theorem relabel_free {env:Env}{x:Str}:∀ {names:List (Str×NameKind)},names.lookup x=some NameKind.free →
  (names.map fun (n,k)=>if (k == NameKind.free&&env.scope.kind == .function&&env.kindOf n == some .cell) then (n,NameKind.cell) else (n,k)).lookup x=some .cell ∨
  (names.map fun (n,k)=>if (k == NameKind.free&&env.scope.kind == .function&&env.kindOf n == some .cell) then (n,NameKind.cell) else (n,k)).lookup x=some .free
 | [],h=>by simp at h
 | (n,k)::r,h=>by
  by_cases hx:x=n
  ·subst hx
   simp only[List.lookup_cons,beq_self_eq_true]at h
   cases h
   simp only[List.map_cons]
   split
   ·left;simp[List.lookup_cons]
   ·right;simp[List.lookup_cons]
  ·have hb:(x == n)=false:=by simpa using hx
   simp only[List.lookup_cons,hb]at h
   have ih:=relabel_free (env:=env) h
   simp only[List.map_cons]
   split
   ·simpa only[List.lookup_cons,hb] using ih
   ·simpa only[List.lookup_cons,hb] using ih
theorem lookup_of_mem {α:Type}{x:Str}{c:α}:∀ {l:List (Str×α)},(x,c)∈l→∃c',l.lookup x=some c'
 | [],h=>by cases h
 | (n,d)::r,h=>by
  by_cases hx:x=n
  ·subst hx;exact⟨d,by simp[List.lookup_cons]⟩
  ·have hb:(x == n)=false:=by simpa using hx
   rcases List.mem_cons.mp h with e | h
   ·exact absurd (congrArg Prod.fst e) hx
   ·obtain⟨c',e⟩:=lookup_of_mem h
    exact⟨c',by simpa only[List.lookup_cons,hb] using e⟩
section
variable {X:Cx}{pins:List (Addr×Obj)}{σ:St}{H:Hp}{s:Shared}{sc:Scope}{N:List Str}{fp:List Addr}{ix:List (Option Nat)}
theorem Inv.capt (I:Inv X pins σ H s)(S:CmpScope X sc):∀y∈sc.names,y.2=NameKind.free→∃c,X.env.cells.lookup y.1=some c:=fun y hy e=>I.ok.has y.1 (S.clos y hy e)
theorem Inv.clcell (I:Inv X pins σ H s)(S:CmpScope X sc){x:Str}{c:Addr}(h:(clOf X.env.cells sc.names []).lookup x=some c):X.env.cells.lookup x=some c:=by
 rcases clOf_of _ _ _ (PySem.mem_of_lookup h) with q | ⟨q,e⟩
 ·cases q
 ·obtain⟨c',hc⟩:=I.capt S _ q rfl
  have hc':X.env.cells.lookup x=some c':=hc
  have e':c=(X.env.cells.lookup x).getD 0:=e
  rw[hc',Option.getD_some]at e'
  rw[e'];exact hc'
theorem Inv.clhas (I:Inv X pins σ H s)(S:CmpScope X sc){x:Str}(h:(x,NameKind.free)∈sc.names):∃c,(clOf X.env.cells sc.names []).lookup x=some c∧X.env.cells.lookup x=some c:=by
 obtain⟨c,e⟩:=lookup_of_mem (clOf_has (cells:=X.env.cells) sc.names [] h)
 exact⟨c,e,I.clcell S e⟩
theorem Inv.block {h1:Heap}{tk:Nat}{m:Str→Option Value}(I:Inv X pins σ H s)(S:CmpScope X sc)(hix:idxOk N X.N sc ix=true)(hf:∀b∈fp,FpOk X pins H b∧b<s.heap.objs.size)
  (hk:∀b o,s.heap.get? b=some o→h1.get? b=some o) (hn:h1.Ns s.heap.objs.size m):
  Inv (bx X sc N fp s H (X.pn++pins)) [] (pick ix σ) H { s with heap:=h1,toks:=tk }:=by
 have hC:∀b o,s.heap.get? b=some o→b≠s.heap.objs.size:=fun b o e=>Nat.ne_of_lt (Heap.lt_size e)
 have hcell:∀x c,(clOf X.env.cells sc.names []).lookup x=some c→∃v,s.heap.IsCell c v:=fun x c e=>I.cell x c (I.clcell S e)
 have stk:∀b,b≠X.env.locals→b∉X.fs→b∉frs X.stack:=fun b h1 h2 hb=>by
  rcases List.mem_cons.mp (I.stkSub b hb) with z | z
  ·exact h1 z
  ·exact h2 z
 rw[idxOk,Bool.and_eq_true]at hix
 refine⟨⟨I.ok.mod,S.kind,I.ok.glob,I.ok.blt,Nat.le_refl _,?_,?_,?_,I.ok.hd,I.ok.frames,.inl rfl,?_,I.bs,Nat.le_trans I.ok.bsz I.sz,?_,?_,I.stack,I.stkFree⟩,
  rfl,I.bare,Un.kept hk,⟨m,hn,?_⟩,?_,I.fresh,?_,?_,I.hok.kept hk,?_⟩
 ·intro x y c e1 e2
  exact I.ok.inj x y c (I.clcell S e1) (I.clcell S e2)
 ·intro x hx
  have hx:(relabel sc X.env).names.lookup x=some .cell∨(relabel sc X.env).names.lookup x=some .free:=hx
  have hm:(x,NameKind.free)∈sc.names:=by
   rcases hx with hx | hx
   ·rcases relabel_mem hx with q | ⟨_,q⟩
    ·exact absurd rfl (S.nocell _ q)
    ·exact q
   ·rcases relabel_mem hx with q | ⟨q,_⟩
    ·exact q
    ·cases q
  obtain⟨c,e,_⟩:=I.clhas S hm
  exact⟨c,e⟩
 ·intro x c z
  cases z
 ·intro b hb
  obtain⟨f,hlt⟩:=hf b hb
  refine⟨Nat.ne_of_lt hlt,fun x c e=>f.2.2.2.2.1 x c (I.clcell S e)⟩
 ·intro b o e hb
  obtain⟨⟨_,_,_,f3,_⟩,_⟩:=hf b hb
  rcases f3 with z | z
  ·exact I.ok.noex b o e z
  ·exact absurd (Heap.lt_size e) (Nat.not_lt.mpr (Nat.le_trans I.ok.bsz z))
 ·intro b hb
  obtain⟨⟨_,f1,f2,_⟩,_⟩:=hf b hb
  exact stk b f1 f2
 ·intro i x v e1 e2 e3
  have e1:N[i]?=some x:=e1
  have hi:∃j,ix[i]?=some (some j)∧σ[j]?=some (some v):=by
   unfold pick at e2
   rw[List.getElem?_map]at e2
   cases q:ix[i]? with
   | none=>rw[q]at e2;cases e2
   | some o=>
    rw[q]at e2
    cases o with
    | none=>cases e2
    | some j=>
     refine⟨j,rfl,?_⟩
     have e4:(σ[j]?).join=some v:=Option.some.inj e2
     cases q2:σ[j]? with
     | none=>rw[q2]at e4;cases e4
     | some w=>rw[q2]at e4;cases w with
      | none=>cases e4
      | some w=>rw[←e4];rfl
  obtain⟨j,hj,hσ⟩:=hi
  have hz:(x,some j)∈N.zip ix:=by
   have q:(N.zip ix)[i]?=some (x,some j):=by rw[List.getElem?_zip_eq_some];exact⟨e1,hj⟩
   exact List.mem_of_getElem? q
  have hp:=List.all_eq_true.mp hix.2 _ hz
  dsimp only at hp
  rw[Bool.and_eq_true]at hp
  have hM:X.N[j]?=some x:=of_decide_eq_true hp.1
  have hfr:sc.names.lookup x=some NameKind.free:=of_decide_eq_true hp.2
  have hmem:=PySem.mem_of_lookup hfr
  obtain⟨mo,hno,hlo⟩:=I.loc
  have hvis:Vis X.env.scope x:=by
   rcases S.clos _ hmem rfl with z | z
   ·exact .inr (.inl z)
   ·exact .inr (.inr z)
  obtain⟨u,ru,l⟩:=hlo j x v hM hσ hvis
  refine⟨u,ru,.inr ⟨?_,?_⟩⟩
  ·exact relabel_free (env:=X.env) hfr
  ·obtain⟨c,e,e'⟩:=I.clhas S hmem
   refine⟨c,e,?_⟩
   rcases l with⟨k,_⟩|⟨_,c',ec,z⟩
   ·rcases S.clos _ hmem rfl with q | q
    ·rw[k]at q;cases q
    ·rw[k]at q;cases q
   ·rw[e']at ec
    cases ec
    obtain⟨o,ho,hd⟩:=z
    exact⟨o,hk _ _ ho,hd⟩
 ·intro x c e
  obtain⟨v,o,ho,hd⟩:=hcell x c e
  exact⟨v,o,hk _ _ ho,hd⟩
 ·intro x c e
  exact I.freeC x c (I.clcell S e)
 ·intro p hp
  have hp:p∈X.pn++pins:=by
   rcases List.mem_append.mp hp with z | z
   ·exact z
   ·cases z
  obtain⟨e,n,ne,nf,d⟩:=I.pin p hp
  exact⟨hk _ _ e,n,hC _ _ e,stk p.1 ne nf,d⟩
 ·show (pick ix σ).length=N.length
  unfold pick
  rw[List.length_map]
  simpa using hix.1
theorem Inv.unblock {τ:St}{H':Hp}{s':Shared}{h':Heap}(I:Inv X pins σ H s)(hf:∀b∈fp,FpOk X pins H b)(J:Inv (bx X sc N fp s H (X.pn++pins)) [] τ H' s')(hs:Heap.SameBut s.heap.objs.size s'.heap h'):
  Inv X pins σ H' { s' with heap:=h' }:=by
 have nC:∀b o,s.heap.get? b=some o→b≠s.heap.objs.size:=fun b o e=>Nat.ne_of_lt (Heap.lt_size e)
 have hfr:H' s.heap.objs.size=none:=J.free
 have u:Un (frs X.stack) fp H H' s.heap s'.heap:=J.base
 have ok:HOk X.prog X.w H' h':=fun b ob e=>by
  refine(J.hok b ob e).stay (fun c w' hc q=>(hs.2 c ?_).trans q) (fun _ q=>q) fun _ _ q=>q
  rintro rfl
  rcases hc with rfl | hc
  ·rw[hfr]at e;cases e
  ·rw[hfr]at hc;cases hc
 refine I.call' (ch:=fp) J.os ⟨fun b o e n h1 h2=>(hs.2 b (nC b o e)).trans (u.keep b o e n h1 h2),fun b o e n h1 h2=>?_,u.free,fun b o e h2=>?_,u.tups,u.frzs,u.tbls⟩ ok J.bare fun b hb=>?_
 ·obtain⟨sl,q⟩:=u.slot b o e n h1 h2
  exact⟨sl,(hs.2 b (nC b o e)).trans q⟩
 ·obtain⟨o',q⟩:=u.there b o e h2
  exact⟨o',(hs.2 b (nC b o e)).trans q⟩
 ·obtain⟨_,f1,_,f3,f4,f5⟩:=hf b hb
  exact⟨f3,f1,f4,f5⟩
end
def PIfs (X:Cx)(ifs:List Expr)(t:TT):Prop:=
 ∀(pins:List (Addr×Obj)) (s:Shared) (σ:St) (H:Hp) (Q:Bool→Hp→Prop),Inv X pins σ H s→t σ H Q →
  wpAny (model X.prog X.w) X.A (forIn ifs true fun c r=>if r=true then do let ok ←isTrue c X.env (eval c X.env);pure (ForInStep.yield ok) else pure (ForInStep.yield r)) (TP X pins σ Q) X.xe s
def tAll:TT:=fun _ H Q=>Q true H
theorem pifs_nil {X:Cx}:PIfs X [] tAll:=fun _ _ _ H _ I h=>wpAny_tests_nil ⟨H,I,h⟩
theorem pifs_one {X:Cx}{c:Expr}{t:TT}(h:PT X c t):PIfs X [c] t:=fun pins s σ H Q I q=>wpAny_tests_one (h pins s σ H Q I q)
theorem compLoop_any {prog:Program}{w:World}{A:Around}{R:Result→Shared→Prop}{s:Shared}{el tgt iter:Expr}{ifs:List Expr}{scp:Scope}{pos:Pos}{it acc:Value}{env:Env}(W:Nat→Shared→Prop)
  (turn:∀n s,W n s→wpAny (model prog w) A (pyNext it) (fun r s₁=>match r with
   | none=>R (.ok .next) s₁
   | some v=>wpAny (model prog w) A (letOwnedTupleGo tgt it v) (fun _ s₁'=>wpAny (model prog w) A (assign tgt env v) (fun _ s₂=>
     wpAny (model prog w) A (forIn ifs true fun c r=>if r=true then do let ok ←isTrue c env (eval c env);pure (ForInStep.yield ok) else pure (ForInStep.yield r)) (fun ok s₃=>
      if ok=true then wpAny (model prog w) A (eval el env) (fun x s₄=>
       wpAny (model prog w) A (call (.builtin "list.append") [acc,x]) (fun _ s₅=>∃m,m<n∧W m s₅) (fun _ _=>False) s₄) (fun _ _=>False) s₃
      else ∃m,m<n∧W m s₃) (fun _ _=>False) s₂) (fun _ _=>False) s₁') (fun _ _=>False) s₁) (fun _ _=>False) s)
  (n:Nat) (h:W n s):codeAny (model prog w) A (.compLoop (.ListComp el [⟨tgt,iter,ifs,0⟩] scp pos) 0 it acc env) R s:=by
 refine codeAny_loop rfl W (fun n s hI=>?_) n h
 show wpAny _ A ((compTurn (.ListComp el [⟨tgt,iter,ifs,0⟩] scp pos) 0 it acc env).onRaise (fun x=>do noteFrame x env;theTreesLotGoes x)) _ _ s
 refine wpAny_noted ?_
 rw[compTurn_list]
 refine wpAny_bind (wpAny_standAt (wpAny_bind (wpAny_mono (turn n s hI) (fun r s1 q1=>?_) fun _ _ z=>z.elim)))
 cases r with
 | none=>exact wpAny_pure q1
 | some v=>
  refine wpAny_bind (wpAny_mono q1 (fun _ s1' q1'=>?_) fun _ _ z=>z.elim)
  refine wpAny_bind (wpAny_mono q1' (fun _ s2 q2=>wpAny_bind (wpAny_mono q2 (fun ok s3 q3=>?_) fun _ _ z=>z.elim)) fun _ _ z=>z.elim)
  cases ok with
  | false=>exact wpAny_pure ⟨rfl,q3⟩
  | true=>exact wpAny_bind (wpAny_bind (wpAny_mono q3 (fun x s4 q4=>wpAny_bind (wpAny_mono q4 (fun _ s5 q5=>wpAny_pure (wpAny_pure ⟨rfl,q5⟩)) fun _ _ z=>z.elim)) fun _ _ z=>z.elim))
def tComp (ix:List (Option Nat))(wi:TI)(g:TG)(tt:TT)(te:TE):TE:=fun σ H Q=>wi σ H fun J H1=>∀acc,H1 acc=none→∃W:Nat→Nat→St→Hp→Prop,(∃m,W 0 m (pick ix σ) (upd H1 acc (.lst []))) ∧
 ∀i m τ H2,W i m τ H2→(J.stop i H2∧Q (.ref acc) H2)∨(J.go i H2∧∃Nx:St→Hp→Prop,(∀τ' H',Nx τ' H'→∃m',m'<m∧W (i+1) m' τ' H') ∧
  ∀x H3,J.yld i H2 x H3→g x τ H3 fun τ2 H4=>tt τ2 H4 fun b H5=>if b=true then te τ2 H5 fun y H6=>∃ys,H6 acc=some (.lst ys)∧ys.length<sizeLine∧Nx τ2 (upd H6 acc (.lst (ys++[y]))) else Nx τ2 H5)
section
variable {X:Cx}{sc:Scope}{N:List Str}{ix:List (Option Nat)}{elt tg iter:Expr}{ifs:List Expr}{pos:Pos}{wi:TI}{g:TG}{tt:TT}{te:TE}
theorem comp_block {Q:VK}{pins:List (Addr×Obj)}{s:Shared}{σ:St}{H:Hp}{it:Addr}{fp:List Addr}{tn:Nat→Heap→Prop}{J:It}{RR:Value→Addr→Result→Shared→Prop}
  (hc:X.calm=true) (S:CmpScope X sc) (hix:idxOk N X.N sc ix=true)
  (hg:∀fp s₀ H₀ pn,PG (bx X sc N fp s₀ H₀ pn) tg g) (ht:∀fp s₀ H₀ pn,PIfs (bx X sc N fp s₀ H₀ pn) ifs tt) (he:∀fp s₀ H₀ pn,PE (bx X sc N fp s₀ H₀ pn) elt te)
  (I:Inv X pins σ H s) (T:Turn X.prog X.w X.K tg J fp it tn) (st:tn 0 s.heap) (hf:∀b∈fp,FpOk X pins H b)
  (q:∀acc,H acc=none→∃W:Nat→Nat→St→Hp→Prop,(∃m,W 0 m (pick ix σ) (upd H acc (.lst []))) ∧
   ∀i m τ H2,W i m τ H2→(J.stop i H2∧Q (.ref acc) H2)∨(J.go i H2∧∃Nx:St→Hp→Prop,(∀τ' H',Nx τ' H'→∃m',m'<m∧W (i+1) m' τ' H') ∧
    ∀x H3,J.yld i H2 x H3→g x τ H3 fun τ2 H4=>tt τ2 H4 fun b H5=>if b=true then te τ2 H5 fun y H6=>∃ys,H6 acc=some (.lst ys)∧ys.length<sizeLine∧Nx τ2 (upd H6 acc (.lst (ys++[y]))) else Nx τ2 H5))
  (hR:∀(acc:Addr) (s₃ s':Shared) (τ:St) (H':Hp),Inv X pins σ (upd H acc (.lst [])) s₃→(∀b∈fp,FpOk X pins (upd H acc (.lst [])) b)→Inv (bx X sc N fp s₃ (upd H acc (.lst [])) (X.pn++pins)) [] τ H' s'→Q (.ref acc) H' →
   RR (.ref acc) s₃.heap.objs.size (.ok .next) s'):
  wpAny (model X.prog X.w) X.A (newList []) (fun acc s₃=>wpAny (model X.prog X.w) X.A (newFunctionEnv sc X.env.globals (clOf X.env.cells sc.names []) [] X.env.qual none .none (some X.env)) (fun cenv s₄=>
   codeAny (model X.prog X.w) X.A (.compStart (.ListComp elt [⟨tg,iter,ifs,0⟩] sc pos) 0 (.ref it) acc { cenv with scope:=relabel sc X.env }) (RR acc cenv.locals) s₄) X.xe s₃) X.xe s:=by
 refine wpAny_newObj_type ?_
 have hfr:=I.fresh
 have I3:=I.lnew (its:=[]) (ys:=[]) (t':=s.toks) .nil (Nat.zero_le _)
 have fne:∀b∈fp,b<s.heap.objs.size:=fun b hb=>by
  obtain⟨o,e,_⟩:=T.obj 0 _ st b hb
  exact Heap.lt_size e
 have hf3:∀b∈fp,FpOk X pins (upd H s.heap.objs.size (.lst [])) b:=fun b hb=>by
  obtain⟨f0,f⟩:=hf b hb
  refine⟨?_,f⟩
  rw[upd_ne (Nat.ne_of_lt (fne b hb))]
  exact f0
 have q3:=q _ hfr
 have st3:tn 0 (s.heap.push { cls:=.type "list",data:=.seq ([]:List Value).toArray }):=T.keep _ _ _ st fun b _ o e=>Heap.get?_push_of_some _ e
 generalize e3:({ s with heap:=s.heap.push { cls:=.type "list",data:=.seq ([]:List Value).toArray },toks:=s.toks }:Shared)=s3 at I3
 have es3:s3.heap=s.heap.push { cls:=.type "list",data:=.seq ([]:List Value).toArray }:=by rw[←e3]
 rw[←es3]at st3
 have hf3':∀b∈fp,FpOk X pins (upd H s.heap.objs.size (.lst [])) b∧b<s3.heap.objs.size:=fun b hb=>⟨hf3 b hb,by rw[es3,Heap.size_push];exact Nat.lt_succ_of_lt (fne b hb)⟩
 refine wpAny_newFunctionEnv S.nocell (by intro y hy;cases hy) (fun h₁ hns₁ hsb₁=>?_) S.kind
 have hk:∀b o,s3.heap.get? b=some o→h₁.get? b=some o:=fun b o e=>hsb₁.extBut b o (Nat.ne_of_lt (Heap.lt_size e)) (Heap.get?_push_of_some _ e)
 have I4:=I3.block (N:=N) (ix:=ix) (tk:=s3.toks+([]:List (Str×Value)).length) S hix hf3' hk hns₁
 have st4:tn 0 h₁:=T.keep _ _ _ st3 fun b _ o e=>hk b o e
 obtain⟨W,⟨m0,w0⟩,turn⟩:=q3
 have statN:∀ {H':Hp},(∀b∈fp,H' b=none)→∀b∈fp,FpOk (bx X sc N fp s3 (upd H s.heap.objs.size (.lst [])) (X.pn++pins)) [] H' b:=fun {H'} hn b hb=>by
  obtain⟨⟨_,f1,f2,f3,f4,f5⟩,hlt⟩:=hf3' b hb
  refine⟨hn b hb,Nat.ne_of_lt hlt,fun z=>?_,.inl hb,fun x c e=>f4 x c (I3.clcell S e),fun p hp=>?_⟩
  ·rcases List.mem_cons.mp (I3.stkSub b z) with z | z
   ·exact f1 z
   ·exact f2 z
  ·refine f5 p ?_
   rcases List.mem_append.mp hp with z | z
   ·exact z
   ·cases z
 have loop:∀s4:Shared,s4={ s3 with heap:=h₁,toks:=s3.toks+([]:List (Str×Value)).length } →
   codeAny (model X.prog X.w) X.A (.compLoop (.ListComp elt [⟨tg,iter,ifs,0⟩] sc pos) 0 (.ref it) (.ref s.heap.objs.size) (compEnvC sc (clOf X.env.cells sc.names []) s3.heap.objs.size X.env)) (RR (.ref s.heap.objs.size) s3.heap.objs.size) s4:=by
  rintro s4 rfl
  refine compLoop_any (fun n s'=>∃i τ H',Inv (bx X sc N fp s3 (upd H s.heap.objs.size (.lst [])) (X.pn++pins)) [] τ H' s'∧tn i s'.heap∧(∀b∈fp,H' b=none)∧W i n τ H') ?_ m0 ⟨0,_,_,I4,st4,fun b hb=>(hf3 b hb).1,w0⟩
  rintro n s5 ⟨i,τ,H5,I5,st5,fr5,w5⟩
  rcases turn i n τ H5 w5 with⟨stop,qn⟩|⟨go,Nx,hN,step⟩
  ·refine thn (T.done (bx X sc N fp s3 (upd H s.heap.objs.size (.lst [])) (X.pn++pins)) rfl rfl rfl hc i [] s5 τ H5 (fun _ _=>False) I5 (statN fr5) st5 stop) fun r s6 ⟨hr,I6⟩=>?_
   subst hr
   exact hR _ _ _ _ _ I3 hf3 I6 qn
  ·refine thn (T.item (bx X sc N fp s3 (upd H s.heap.objs.size (.lst [])) (X.pn++pins)) rfl rfl rfl hc i [] s5 τ H5 (fun _ _=>False) I5 (statN fr5) st5 go) fun r s6 ⟨u,hr,h6⟩=>?_
   subst hr
   refine thn h6 fun _ s7 ⟨x,H7,I7,r7,y7,st7,fr7⟩=>?_
   have I7':=I7.pinned (statN fr7) (T.obj _ _ st7)
   refine thn (hg _ _ _ _ _ s7 τ H7 x u _ I7' r7 (step x H7 y7)) fun _ s8 ⟨τ8,H8,I8,q8⟩=>?_
   have again:∀ {s9:Shared} {τ9:St} {H9:Hp},Inv (bx X sc N fp s3 (upd H s.heap.objs.size (.lst [])) (X.pn++pins)) ([]++pinsAt fp s7.heap) τ9 H9 s9→Nx τ9 H9 →
     ∃m,m<n∧∃i τ H',Inv (bx X sc N fp s3 (upd H s.heap.objs.size (.lst [])) (X.pn++pins)) [] τ H' s9∧tn i s9.heap∧(∀b∈fp,H' b=none)∧W i m τ H':=fun {s9 τ9 H9} I9 n9=>by
    obtain⟨m',hm,w9⟩:=hN τ9 H9 n9
    refine⟨m',hm,i+1,τ9,H9,I9.unpinned,T.keep _ _ _ st7 fun b hb o e=>(I9.pin (b,o) (List.mem_append_right _ (List.mem_append_right _ (mem_pinsAt hb e)))).1,fun b hb=>?_,w9⟩
    obtain⟨o,e,d⟩:=T.obj _ _ st7 b hb
    exact(I9.pin (b,o) (List.mem_append_right _ (List.mem_append_right _ (mem_pinsAt hb e)))).2.1
   refine thn (ht _ _ _ _ _ s8 τ8 H8 _ I8 q8) fun ok s9 ⟨H9,I9,q9⟩=>?_
   cases ok with
   | false=>exact again I9 q9
   | true=>
    rw[if_pos rfl]at q9 ⊢
    refine thn (he _ _ _ _ _ s9 τ8 H9 _ I9 q9) fun yv s10 ⟨y,H10,I10,r10,ys,ha,hz,q10⟩=>?_
    refine thn (mt_append _ s10 τ8 H10 (.ref s.heap.objs.size) [y] (.ref s.heap.objs.size) [yv] (fun v H'=>v=.non∧Nx τ8 H') I10 rfl (.cons r10 .nil) ⟨_,ys,y,rfl,rfl,ha,hz,rfl,q10⟩) fun _ s11 ⟨_,H11,I11,_,_,q11⟩=>?_
    exact again I11 q11
 exact codeAny_compStart_list (loop _ rfl) (T.self _ 0 _ _ _ st4 (loop _ rfl))
theorem pe_comp (hc:X.calm=true)(S:CmpScope X sc)(hix:idxOk N X.N sc ix=true)(hi:PI X tg iter wi)
  (hg:∀fp s₀ H₀ pn,PG (bx X sc N fp s₀ H₀ pn) tg g) (ht:∀fp s₀ H₀ pn,PIfs (bx X sc N fp s₀ H₀ pn) ifs tt) (he:∀fp s₀ H₀ pn,PE (bx X sc N fp s₀ H₀ pn) elt te)
  (hs:∀x,foldedSetIterable iter X.env x=pure x:=by intro _;rfl):PE X (.ListComp elt [⟨tg,iter,ifs,0⟩] sc pos) (tComp ix wi g tt te):=by
 intro pins s σ H Q I h
 rw[eval_ListComp]
 refine wpAny_comprehension_free (use:=none) rfl hs (closure_is (I.capt S)) S.kind S.loc (thn (hi pins s σ H _ I h) fun v s1 h1=>thn h1 fun itv s2 h2=>?_)
 obtain⟨it,fp,tn,J,H2,e,I2,T,st2,f2,q⟩:=h2
 subst e
 refine comp_block (Q:=Q) (RR:=fun acc C=>compPost (model X.prog X.w) X.A X.xe none (EP X pins σ Q) acc C) hc S hix hg ht he I2 T st2 f2 q ?_
 intro acc s3 s' τ H' I3 hf3 J' qq
 obtain⟨m,hn,_⟩:=J'.loc
 exact⟨m,hn,fun h' hs'=>⟨.ref acc,H',I3.unblock hf3 J' hs',rfl,qq⟩⟩
end
abbrev tx (l:List Nat):V:=.str ⟨l.toArray⟩
theorem tx_inj {a b:List Nat}:tx a=tx b↔a=b:=by
 constructor
 ·intro h
  have h1:(⟨a.toArray⟩:Str)=⟨b.toArray⟩:=V.str.inj h
  have h2:a.toArray=b.toArray:=congrArg Str.cps h1
  simpa using h2
 ·rintro rfl;rfl
theorem dec_tx {a b:List Nat}:decide (tx a=tx b)=decide (a=b):=by
 by_cases h:a=b
 ·subst h;simp
 ·rw[decide_eq_false h,decide_eq_false fun z=>h (tx_inj.mp z)]
theorem txlen (l:List Nat):(⟨l.toArray⟩:Str).length=l.length:=by
 show l.toArray.size=l.length
 simp
def rT (C:List Nat→List Nat→Prop)(g:List Nat→List Nat→V):R2:=fun x y H Q=>∃a b,x=tx a∧y=tx b∧C a b∧Q (g a b) H
def cut {α:Type}(l:List α)(lo hi:Option Int):List α:=(l.drop (HT.sIx l.length 0 lo)).take (HT.sIx l.length l.length hi-HT.sIx l.length 0 lo)
theorem cut_length {α:Type}(l:List α)(lo hi:Option Int):(cut l lo hi).length≤l.length:=by
 unfold cut
 rw[List.length_take,List.length_drop]
 omega
theorem cut_nn {α:Type}(l:List α)(a b:Nat):cut l (some (a:Int)) (some (b:Int))=(l.drop a).take (b-a):=by
 unfold cut
 rw[HT.sIx_nat,HT.sIx_nat]
 apply List.ext_getElem?
 intro i
 simp only[List.getElem?_take,List.getElem?_drop]
 by_cases h1:i<min b l.length-min a l.length
 ·rw[if_pos h1,if_pos (by omega)]
  congr 1;omega
 ·rw[if_neg h1]
  by_cases h2:i<b-a
  ·rw[if_pos h2,List.getElem?_eq_none (by omega)]
  ·rw[if_neg h2]
theorem cut_to {α:Type}(l:List α)(b:Nat):cut l none (some (b:Int))=l.take b:=by
 unfold cut
 rw[HT.sIx_nat,HT.sIx_none]
 apply List.ext_getElem?
 intro i
 simp only[List.getElem?_take,List.getElem?_drop,Nat.zero_add,Nat.sub_zero]
 by_cases h1:i<min b l.length
 ·rw[if_pos h1,if_pos (by omega)]
 ·rw[if_neg h1]
  by_cases h2:i<b
  ·rw[if_pos h2,List.getElem?_eq_none (by omega)]
  ·rw[if_neg h2]
theorem cut_from {α:Type}(l:List α)(a:Nat):cut l (some (a:Int)) none=l.drop a:=by
 unfold cut
 rw[HT.sIx_nat,HT.sIx_none]
 apply List.ext_getElem?
 intro i
 simp only[List.getElem?_take,List.getElem?_drop]
 by_cases h1:i<l.length-min a l.length
 ·rw[if_pos h1];congr 1;omega
 ·rw[if_neg h1,List.getElem?_eq_none (by omega)]
def clp (n:Nat)(v:Option Int)(d:Int):Int:=match v with
 | none=>d
 | some i=>max 0 (min (if i<0 then i+(n:Int) else i) (n:Int))
theorem clp_eq (n d:Nat)(o:Option Int):clp n o (d:Int)=((HT.sIx n d o:Nat):Int):=by
 cases o with
 | none=>rw[HT.sIx_none];rfl
 | some v=>
  have:=HT.clip_eq v n d
  unfold clp
  dsimp only
  rw[←this]
  split<;>omega
theorem strIdx_eq (lo hi:Option Int)(n:Nat):Builtin.Str.strSliceIndices lo hi 1 n=(List.range (HT.sIx n n hi-HT.sIx n 0 lo)).map fun k=>HT.sIx n 0 lo+k:=by
 have g:Builtin.Str.strSliceIndices lo hi 1 n=sliceRange (clp n lo ((0:Nat):Int)) (clp n hi (n:Int)) 1:=by
  cases lo<;>cases hi<;>rfl
 rw[g,clp_eq,clp_eq]
 generalize HT.sIx n 0 lo=a
 generalize HT.sIx n n hi=b
 unfold sliceRange
 have hc:(if (1:Int)>0 then (if (a:Int)<(b:Int) then ((b:Int)-a+1-1)/1 else 0) else (if (a:Int)>(b:Int) then ((a:Int)-b-1-1)/(-1) else 0)).toNat=b-a:=by
  simp only[show (1:Int)>0 by decide,if_true,Int.ediv_one]
  split<;>omega
 dsimp only
 rw[hc]
 apply List.map_congr_left
 intro k _
 omega
theorem slice_tx (l:List Nat)(lo hi:Option Int):Txt.slice ⟨l.toArray⟩ lo hi=⟨(cut l lo hi).toArray⟩:=by
 have h1:=HT.sIx_le l.length 0 (Nat.zero_le _) lo
 have h2:=HT.sIx_le l.length l.length (Nat.le_refl _) hi
 unfold Txt.slice
 rw[txlen,strIdx_eq]
 have e:((List.range (HT.sIx l.length l.length hi-HT.sIx l.length 0 lo)).map fun k=>HT.sIx l.length 0 lo+k).filterMap (fun i=>l.toArray[i]?)=cut l lo hi:=by
  unfold cut
  generalize HT.sIx l.length 0 lo=a at *
  generalize HT.sIx l.length l.length hi=b at *
  have hab:∀n,a+n≤l.length→((List.range n).map fun k=>a+k).filterMap (fun i=>l.toArray[i]?)=(l.drop a).take n:=by
   intro n
   induction n with
   | zero=>intro _;simp
   | succ n ih=>
    intro hn
    rw[List.range_succ,List.map_append,List.filterMap_append,ih (by omega),List.take_add_one]
    have:(l.drop a)[n]?=l[a+n]?:=List.getElem?_drop
    simp[this,List.getElem?_eq_getElem (show a+n<l.length by omega)]
  by_cases hle:a≤b
  ·exact hab _ (by omega)
  ·have:b-a=0:=by omega
   rw[this];simp
 split
 ·rename_i hc
  simp only[beq_self_eq_true,Bool.true_and,List.length_map,List.length_range]at hc
  have hc':HT.sIx l.length l.length hi-HT.sIx l.length 0 lo=l.length:=by simpa using hc
  have:cut l lo hi=l:=by
   unfold cut
   have ha:HT.sIx l.length 0 lo=0:=by omega
   rw[hc',ha,List.drop_zero,List.take_of_length_le (Nat.le_refl _)]
  rw[this]
 ·show (⟨(List.filterMap (fun i=>l.toArray[i]?) _).toArray⟩:Str)=_
  rw[e]
section
variable {X:Cx}
theorem op_add_tx:OpR X (binaryOp .Add) (rT (fun a b=>a.length+b.length≤sizeLine) fun a b=>tx (a++b)):=by
 rintro pins s σ H x y v u Q I rx ry ⟨a,b,rfl,rfl,hz,q⟩
 refine op_add_str pins s σ H _ _ v u Q I rx ry ⟨_,_,rfl,rfl,by rw[txlen,txlen];exact hz,?_⟩
 have e:((⟨a.toArray⟩:Str)++(⟨b.toArray⟩:Str))=⟨(a++b).toArray⟩:=by
  show (⟨a.toArray++b.toArray⟩:Str)=_
  simp
 rw[e];exact q
theorem op_in_sign:OpR X (compareOp .In) (fun x y H Q=>∃c l,x=tx [c]∧y=tx l∧Q (.bl (decide (c∈l))) H):=by
 rintro pins s σ H x y v u Q I rx ry ⟨c,l,rfl,rfl,q⟩
 refine op_in_str pins s σ H _ _ v u Q I rx ry ⟨_,_,rfl,rfl,?_⟩
 have e:=StrLaws.found_one ⟨l.toArray⟩ c
 have e':(!(Builtin.Str.occurrences ⟨l.toArray⟩ ⟨[c].toArray⟩ 0 (⟨l.toArray⟩:Str).length 1).isEmpty)=decide (c∈l):=by
  rw[show ([c].toArray)=#[c] from rfl,e]
 rw[e'];exact q
theorem op_notin_sign:OpR X (compareOp .NotIn) (fun x y H Q=>∃c l,x=tx [c]∧y=tx l∧Q (.bl (!decide (c∈l))) H):=by
 rintro pins s σ H x y v u Q I rx ry ⟨c,l,rfl,rfl,q⟩
 refine op_notin_str pins s σ H _ _ v u Q I rx ry ⟨_,_,rfl,rfl,?_⟩
 have e:=StrLaws.found_one ⟨l.toArray⟩ c
 have e':(!(Builtin.Str.occurrences ⟨l.toArray⟩ ⟨[c].toArray⟩ 0 (⟨l.toArray⟩:Str).length 1).isEmpty)=decide (c∈l):=by
  rw[show ([c].toArray)=#[c] from rfl,e]
 rw[e'];exact q
theorem ix_tx:IxR X (fun x y H Q=>∃l i c,x=tx l∧y=.int i∧l.length≤sizeLine∧atI l i=some c∧Q (tx [c]) H):=by
 rintro value slice pins s σ H x y v u Q I rx ry ⟨l,i,c,rfl,rfl,hz,h,q⟩ hs
 exact ix_str value slice pins s σ H _ _ v u Q I rx ry ⟨_,i,c,rfl,rfl,by rw[txlen];exact hz,h,q⟩ hs
theorem sl_tx:SlR X (fun x lo hi H Q=>∃l,x=tx l∧l.length≤sizeLine∧Q (tx (cut l lo hi)) H):=by
 rintro pins s σ H x v vl vu lo hi sl Q I rx hs pl pu ⟨l,rfl,hz,q⟩
 obtain⟨t,rfl⟩:=rx
 refine⟨"str",_,F.slot_str_getitem.lookup,typeIs_str _ _ _,?_⟩
 have part:∀ {v:Value} {o:Option Int},IsPart v o→∃p:Option (Int×Tok),v=partValue p∧p.map (·.1)=o:=fun {v o} h=>by
  cases h with
  | none=>exact⟨none,rfl,rfl⟩
  | int i t=>exact⟨some (i,t),rfl,rfl⟩
 obtain⟨a,rfl,ea⟩:=part pl
 obtain⟨b,rfl,eb⟩:=part pu
 refine wpAny_getItem_str_slice (l:=a) (u:=b) (st:=none) hs rfl ?_
 have e:(if ((1:Int) == 1&&(Builtin.Str.strSliceIndices lo hi 1 (⟨l.toArray⟩:Str).length).length == (⟨l.toArray⟩:Str).length)=true then (⟨l.toArray⟩:Str) else ⟨((Builtin.Str.strSliceIndices lo hi 1 (⟨l.toArray⟩:Str).length).filterMap ((⟨l.toArray⟩:Str).cps[·]?)).toArray⟩)=⟨(cut l lo hi).toArray⟩:=slice_tx l lo hi
 unfold sliceMade slicePicked
 rw[ea,eb]
 refine post_val_or_str ?_
 refine⟨?_,fun t' k=>?_⟩
 ·show (if ((1:Int) == 1&&(Builtin.Str.strSliceIndices lo hi 1 (⟨l.toArray⟩:Str).length).length == (⟨l.toArray⟩:Str).length)=true then (⟨l.toArray⟩:Str) else ⟨((Builtin.Str.strSliceIndices lo hi 1 (⟨l.toArray⟩:Str).length).filterMap ((⟨l.toArray⟩:Str).cps[·]?)).toArray⟩).length≤sizeLine
  rw[e,txlen]
  exact Nat.le_trans (cut_length _ _ _) hz
 ·refine⟨tx (cut l lo hi),H,I.tok _,⟨t',?_⟩,q⟩
  exact congrArg (fun z=>Value.str z t') e
theorem strsAre_tx:∀ {ls:List (List Nat)} {us:List Value},Vals (ls.map tx) us→StrsAre us (ls.map fun l=>(⟨l.toArray⟩:Str))
 | [],us,r=>by
  rw[List.map_nil]at r;cases r;exact .nil
 | l::ls,us,r=>by
  rw[List.map_cons]at r
  cases r with
  | cons r1 r2=>
   obtain⟨t,e⟩:=r1
   subst e
   exact .cons _ t (strsAre_tx r2)
end
def Its (l:List Nat):It:=⟨fun i _=>i<l.length,fun i H x H'=>H'=H∧∃c,l[i]?=some c∧x=tx [c],fun i _=>l.length≤i⟩
theorem turn_text {P:Program} {w:World} {K:PySem.W.Frag} {tg:Expr} (l:List Nat) (t:Tok) (it:Addr) (ty:String) (hty:ty="str_ascii_iterator"∨ty="str_iterator"):Turn P w K tg (Its l) [it] it (fun i h=>h.IsStrIter it ty ⟨l.toArray⟩ t i) where
 mem:=by simp
 obj:=fun i h st b hb=>by
  have e:b=it:=by simpa using hb
  subst e
  obtain⟨o,e,c,d⟩:=st
  exact⟨o,e,fun v z=>by rw[d]at z;cases z⟩
 keep:=fun i h h' st k=>by
  obtain⟨o,e,r⟩:=st
  exact⟨o,k it (by simp) o e,r⟩
 item:=by
  intro X hP hw hK hc i pins s σ H E I hf st hg
  subst hP hw hK
  obtain⟨f0,f1,f2,f3,f4,f5⟩:=hf it (by simp)
  have hg:i<l.length:=hg
  have hx:(⟨l.toArray⟩:Str).cps[i]?=some l[i]:=by
   show l.toArray[i]?=some l[i]
   simp[hg]
  have fin:∀(h':Heap) (tk:Tok),h'.IsStrIter it ty ⟨l.toArray⟩ t (i+1)→Heap.SameBut it s.heap h' →
    ∃u,some (Value.str ⟨#[l[i]]⟩ s.toks)=some u∧wpAny (model X.prog X.w) X.A (letOwnedTupleGo tg (.ref it) u) (fun _ s2=>∃x H',Inv X pins σ H' s2∧RelV x u∧(Its l).yld i H x H'∧s2.heap.IsStrIter it ty ⟨l.toArray⟩ t (i+1)∧∀b∈[it],H' b=none) E { s with heap:=h',toks:=tk }:=fun h' tk st' sb=>by
   have I1:Inv X pins σ H { s with heap:=h',toks:=tk }:=I.turned (t':=tk) (fun b o hb e=>(sb.2 b hb).trans e) f0 f1 f3 f4 f5
   obtain⟨o,e,c,d⟩:=id st'
   refine⟨_,rfl,go_of (s:={ s with heap:=h',toks:=tk }) e c d ?_ ⟨tx [l[i]],H,I1,⟨_,rfl⟩,⟨rfl,l[i],by simp[hg],rfl⟩,st',fun b hb=>(hf b hb).1⟩⟩
   rcases hty with rfl | rfl<;>decide
  rcases hty with rfl | rfl
  ·exact wpAny_pyNext_ascii_item st hx fun h' st' sb=>fin h' _ st' sb
  ·exact wpAny_pyNext_wide_item st hx fun h' st' sb=>fin h' _ st' sb
 done:=by
  intro X hP hw hK hc i pins s σ H E I hf st hg
  subst hP hw hK
  obtain⟨f0,f1,f2,f3,f4,f5⟩:=hf it (by simp)
  have hg:l.length≤i:=hg
  have hx:(⟨l.toArray⟩:Str).cps[i]?=none:=by
   show l.toArray[i]?=none
   simp[hg]
  rcases hty with rfl | rfl
  ·exact wpAny_pyNext_ascii_end (I.ok.hd hc) st hx fun h' eb=>⟨rfl,I.turned (t':=s.toks) (fun b o hb e=>eb b o hb e) f0 f1 f3 f4 f5⟩
  ·exact wpAny_pyNext_wide_end (I.ok.hd hc) st hx fun h' eb=>⟨rfl,I.turned (t':=s.toks) (fun b o hb e=>eb b o hb e) f0 f1 f3 f4 f5⟩
 self:=by
  intro A i s Q E st h
  rcases hty with rfl | rfl
  ·exact wpAny_pyIter_striter_ascii st h
  ·exact wpAny_pyIter_striter_wide st h
section
variable {X:Cx}{tg:Expr}
def iText (tl:TE):TI:=fun σ H R=>tl σ H fun x H1=>∃l,x=tx l∧R (Its l) H1
theorem pi_text {l:Expr}{tl:TE}(hl:PE X l tl):PI X tg l (iText tl):=by
 intro pins s σ H R I h
 refine thn (hl pins s σ H _ I h) fun v s1 ⟨x,H1,I1,r1,q1⟩=>?_
 obtain⟨l,rfl,q⟩:=q1
 obtain⟨t,rfl⟩:=r1
 have fin:∀ty,(ty="str_ascii_iterator"∨ty="str_iterator")→PIE X pins σ tg R (.ref s1.heap.objs.size) { s1 with heap:=s1.heap.push { cls:=.type ty,data:=.fields #[.str ⟨l.toArray⟩ t,.int 0 0] } }:=fun ty hty=>by
  refine⟨s1.heap.objs.size,[s1.heap.objs.size],_,_,H1,rfl,I1.kept (t':=s1.toks) fun b o e=>Heap.get?_push_of_some _ e,turn_text l t _ ty hty,⟨_,Heap.get?_push_size _ rfl,rfl,rfl⟩,fun b hb=>?_,q⟩
  have e:b=s1.heap.objs.size:=by simpa using hb
  subst e
  exact I1.fpOk (Nat.le_refl _) (I1.hok.fresh (Nat.le_refl _))
 cases ha:(⟨l.toArray⟩:Str).cps.all (· < 128)
 ·exact wpAny_pyIter_wide ha (fin _ (.inr rfl))
 ·exact wpAny_pyIter_ascii ha (fin _ (.inl rfl))
end
theorem for_text {l:List Nat}{g:TG}{tb:TS}{D:Ends}{σ:St}{H:Hp}(Pv:Nat→St→Hp→Prop)(h0:Pv 0 σ H)
  (hs:∀i c σ H,l[i]?=some c→Pv i σ H→g (tx [c]) σ H fun σ2 H2=>tb { D with nx:=Pv (i+1),ct:=Pv (i+1),bk:=D.nx } σ2 H2) (hd:∀σ H,Pv l.length σ H→D.nx σ H):
  ∃W:Nat→Nat→St→Hp→Prop,(∃m,W 0 m σ H)∧∀i m σ H,W i m σ H →
   ((Its l).stop i H∧D.nx σ H)∨((Its l).go i H∧∃N:St→Hp→Prop,(∀σ' H',N σ' H'→∃m',m'<m∧W (i+1) m' σ' H')∧∀x H',(Its l).yld i H x H'→g x σ H' fun σ2 H2=>tb { D with nx:=N,ct:=N,bk:=D.nx } σ2 H2):=by
 refine⟨fun i m σ H=>m=l.length-i∧i≤l.length∧Pv i σ H,⟨l.length,by simp,Nat.zero_le _,h0⟩,?_⟩
 rintro i m σ H ⟨rfl,hi,p⟩
 by_cases hlt:i<l.length
 ·refine .inr ⟨hlt,Pv (i+1),fun σ' H' p'=>⟨l.length-(i+1),by omega,rfl,hlt,p'⟩,fun x H' y=>?_⟩
  obtain⟨e,c,hc,y⟩:=y
  subst e y
  exact hs i c σ _ hc p
 ·have e:i=l.length:=by omega
  subst e
  exact .inl ⟨Nat.le_refl _,hd σ H p⟩
inductive DT where
 | f (v:V)
 | l (xs:List DT)
 | t (xs:List DT)
section
variable (K:PySem.W.Frag)(H:Hp)
mutual
def DatOk:DT→V→Prop
 | .f w,v=>v=w∧flatV w=true
 | .l ds,v=>∃a vs,v=.ref a∧SqL K H a vs∧DatsOk ds vs
 | .t ds,v=>∃a vs,v=.ref a∧SqT K H a vs∧DatsOk ds vs
def DatsOk:List DT→List V→Prop
 | [],vs=>vs=[]
 | d::ds,vs=>∃v r,vs=v::r∧DatOk d v∧DatsOk ds r
end
end
mutual
def deq:DT→DT→Bool
 | .f v,.f w=>eqV v w
 | .l xs,.l ys=>deqs xs ys
 | .t xs,.t ys=>deqs xs ys
 | .f _,.l _=>false
 | .f _,.t _=>false
 | .l _,.f _=>false
 | .t _,.f _=>false
 | .l _,.t _=>false
 | .t _,.l _=>false
def deqs:List DT→List DT→Bool
 | [],[]=>true
 | x::xs,y::ys=>deq x y&&deqs xs ys
 | [],_::_=>false
 | _::_,[]=>false
end
mutual
def dep:DT→Nat
 | .f _=>0
 | .l xs=>deps xs+1
 | .t xs=>deps xs+1
def deps:List DT→Nat
 | []=>0
 | x::xs=>max (dep x) (deps xs)
end
theorem eqV_self {v:V}(h:flatV v=true):eqV v v=true:=by
 cases v<;>first | rfl | (simp[eqV];done) | exact absurd (show false=true from h) Bool.false_ne_true
theorem DatsOk.length {K:PySem.W.Frag}{H:Hp}:∀ {ds:List DT} {vs:List V},DatsOk K H ds vs→vs.length=ds.length
 | [],vs,h=>by
  unfold DatsOk at h;subst h;rfl
 | d::ds,vs,h=>by
  unfold DatsOk at h
  obtain⟨v,r,rfl,_,hr⟩:=h
  rw[List.length_cons,List.length_cons,DatsOk.length hr]
def pairDeq (xs ys:List DT)(j:Nat):Bool:=match xs[j]?,ys[j]? with
 | some x,some y=>deq x y
 | _,_=>false
theorem deqs_eq:∀xs ys:List DT,deqs xs ys=((List.range (min xs.length ys.length)).all (pairDeq xs ys)&&xs.length == ys.length)
 | [],[]=>by simp[deqs]
 | [],_::_=>by simp[deqs]
 | _::_,[]=>by simp[deqs]
 | x::xs,y::ys=>by
  have e:min (x::xs).length (y::ys).length=min xs.length ys.length+1:=by simp only[List.length_cons];omega
  have e2:∀j,pairDeq (x::xs) (y::ys) (j+1)=pairDeq xs ys j:=fun j=>by simp[pairDeq]
  have e3:pairDeq (x::xs) (y::ys) 0=deq x y:=by simp[pairDeq]
  rw[deqs,deqs_eq xs ys,e,List.range_succ_eq_map,List.all_cons,e3,List.all_map]
  have e4:((fun j=>pairDeq (x::xs) (y::ys) j) ∘ Nat.succ)=pairDeq xs ys:=by funext j;exact e2 j
  have e5:(pairDeq (x::xs) (y::ys) ∘ Nat.succ)=pairDeq xs ys:=e4
  rw[e5,Bool.and_assoc]
  simp
mutual
theorem DatOk.uniq {K:PySem.W.Frag}{X:Cx}{pins:List (Addr×Obj)}{σ:St}{H:Hp}{s:Shared}(I:Inv X pins σ H s):∀(d e:DT) (v:V),DatOk X.K H d v→DatOk X.K H e v→deq d e=true
 | .f w,.f u,v,h1,h2=>by
  unfold DatOk at h1 h2
  obtain⟨rfl,hf⟩:=h1
  obtain⟨e,_⟩:=h2
  subst e
  unfold deq
  exact eqV_self hf
 | .f w,.l ys,v,h1,h2=>by
  unfold DatOk at h1 h2
  obtain⟨rfl,hf⟩:=h1
  obtain⟨a,vs,rfl,_⟩:=h2
  exact absurd (show false=true from hf) Bool.false_ne_true
 | .f w,.t ys,v,h1,h2=>by
  unfold DatOk at h1 h2
  obtain⟨rfl,hf⟩:=h1
  obtain⟨a,vs,rfl,_⟩:=h2
  exact absurd (show false=true from hf) Bool.false_ne_true
 | .l xs,.f w,v,h1,h2=>by
  unfold DatOk at h1 h2
  obtain⟨rfl,hf⟩:=h2
  obtain⟨a,vs,rfl,_⟩:=h1
  exact absurd (show false=true from hf) Bool.false_ne_true
 | .t xs,.f w,v,h1,h2=>by
  unfold DatOk at h1 h2
  obtain⟨rfl,hf⟩:=h2
  obtain⟨a,vs,rfl,_⟩:=h1
  exact absurd (show false=true from hf) Bool.false_ne_true
 | .l xs,.l ys,v,h1,h2=>by
  unfold DatOk at h1 h2
  obtain⟨a,vs,rfl,q1,r1⟩:=h1
  obtain⟨b,ws,e,q2,r2⟩:=h2
  cases e
  have:=I.list_inj q1 q2
  subst this
  unfold deq
  exact DatsOk.uniq (K:=K) I xs ys vs r1 r2
 | .t xs,.t ys,v,h1,h2=>by
  unfold DatOk at h1 h2
  obtain⟨a,vs,rfl,q1,r1⟩:=h1
  obtain⟨b,ws,e,q2,r2⟩:=h2
  cases e
  have:=I.tuple_inj q1 q2
  subst this
  unfold deq
  exact DatsOk.uniq (K:=K) I xs ys vs r1 r2
 | .l xs,.t ys,v,h1,h2=>by
  unfold DatOk at h1 h2
  obtain⟨a,vs,rfl,q1,r1⟩:=h1
  obtain⟨b,ws,e,q2,r2⟩:=h2
  cases e
  obtain⟨_,_,⟨o,n,e1,c1,_⟩,_⟩:=I.list q1
  obtain⟨_,_,⟨o',e2,c2,_⟩,_⟩:=I.tuple q2
  rw[e1]at e2;cases e2
  rw[c1]at c2;exact absurd c2 (by simp)
 | .t xs,.l ys,v,h1,h2=>by
  unfold DatOk at h1 h2
  obtain⟨a,vs,rfl,q1,r1⟩:=h1
  obtain⟨b,ws,e,q2,r2⟩:=h2
  cases e
  obtain⟨_,_,⟨o',e2,c2,_⟩,_⟩:=I.tuple q1
  obtain⟨_,_,⟨o,n,e1,c1,_⟩,_⟩:=I.list q2
  rw[e1]at e2;cases e2
  rw[c1]at c2;exact absurd c2 (by simp)
theorem DatsOk.uniq {K:PySem.W.Frag}{X:Cx}{pins:List (Addr×Obj)}{σ:St}{H:Hp}{s:Shared}(I:Inv X pins σ H s):∀(xs ys:List DT) (vs:List V),DatsOk X.K H xs vs→DatsOk X.K H ys vs→deqs xs ys=true
 | [],[],vs,h1,h2=>by unfold deqs;rfl
 | [],y::ys,vs,h1,h2=>by
  unfold DatsOk at h1 h2
  subst h1
  obtain⟨_,_,e,_⟩:=h2
  cases e
 | x::xs,[],vs,h1,h2=>by
  unfold DatsOk at h1 h2
  subst h2
  obtain⟨_,_,e,_⟩:=h1
  cases e
 | x::xs,y::ys,vs,h1,h2=>by
  unfold DatsOk at h1 h2
  obtain⟨v,r,rfl,a1,a2⟩:=h1
  obtain⟨v',r',e,b1,b2⟩:=h2
  cases e
  unfold deqs
  rw[DatOk.uniq (K:=K) I x y v a1 b1,DatsOk.uniq (K:=K) I xs ys r a2 b2]
  rfl
end
section
variable {X:Cx}{pins:List (Addr×Obj)}{σ:St}{H:Hp}{s:Shared}
open SeqAt
theorem eqAt_fl {A:Around}{w:V}{u:Value}{l:Addr}{items:Array Value}(hf:flatV w=true)(r:RelV w u)(hl:s.heap.IsList l items)(hu:A.units<cLine):EqAt A s u (.ref l) false∧EqAt A s (.ref l) u false∧RcAt A s u (.ref l) false∧RcAt A s (.ref l) u false∧RcNeAt A s u (.ref l) true∧RcNeAt A s (.ref l) u true:=by
 cases w with
 | non=>cases r;exact⟨.none_list hl hu,.list_none hl hu,.none_list hl hu,.list_none hl hu,.none_list hl hu,.list_none hl hu⟩
 | bl b=>cases r;exact⟨.bool_list b hl hu,.list_bool b hl hu,.bool_list b hl hu,.list_bool b hl hu,.bool_list b hl hu,.list_bool b hl hu⟩
 | int i=>obtain⟨t,rfl⟩:=r;exact⟨.int_list i t hl hu,.list_int i t hl hu,.int_list i t hl hu,.list_int i t hl hu,.int_list i t hl hu,.list_int i t hl hu⟩
 | str i=>obtain⟨t,rfl⟩:=r;exact⟨.str_list i t hl hu,.list_str i t hl hu,.str_list i t hl hu,.list_str i t hl hu,.str_list i t hl hu,.list_str i t hl hu⟩
 | _=>exact absurd (show false=true from hf) Bool.false_ne_true
theorem eqAt_ft {A:Around}{w:V}{u:Value}{l:Addr}{items:Array Value}(hf:flatV w=true)(r:RelV w u)(hl:s.heap.IsTuple l items)(hu:A.units<cLine):EqAt A s u (.ref l) false∧EqAt A s (.ref l) u false∧RcAt A s u (.ref l) false∧RcAt A s (.ref l) u false∧RcNeAt A s u (.ref l) true∧RcNeAt A s (.ref l) u true:=by
 cases w with
 | non=>cases r;exact⟨.none_tuple hl hu,.tuple_none hl hu,.none_tuple hl hu,.tuple_none hl hu,.none_tuple hl hu,.tuple_none hl hu⟩
 | bl b=>cases r;exact⟨.bool_tuple b hl hu,.tuple_bool b hl hu,.bool_tuple b hl hu,.tuple_bool b hl hu,.bool_tuple b hl hu,.tuple_bool b hl hu⟩
 | int i=>obtain⟨t,rfl⟩:=r;exact⟨.int_tuple i t hl hu,.tuple_int i t hl hu,.int_tuple i t hl hu,.tuple_int i t hl hu,.int_tuple i t hl hu,.tuple_int i t hl hu⟩
 | str i=>obtain⟨t,rfl⟩:=r;exact⟨.str_tuple i t hl hu,.tuple_str i t hl hu,.str_tuple i t hl hu,.tuple_str i t hl hu,.str_tuple i t hl hu,.tuple_str i t hl hu⟩
 | _=>exact absurd (show false=true from hf) Bool.false_ne_true
theorem rc_ll {A:Around}{l b:Addr}{ps qs:List Value}{xs ys:List DT}(hl:s.heap.IsList l ps.toArray)(hb:s.heap.IsList b qs.toArray)(n1:ps.length=xs.length)(n2:qs.length=ys.length)(hu:A.units<cLine)
  (he:∀j (h1:j<ps.length) (h2:j<qs.length),EqAt A.in1 s ps[j] qs[j] (pairDeq xs ys j)):RcAt A s (.ref l) (.ref b) (deqs xs ys)∧RcNeAt A s (.ref l) (.ref b) (!deqs xs ys):=by
 rw[deqs_eq]
 by_cases hz:ps.length=qs.length
 ·have hsz:ps.toArray.size=qs.toArray.size:=by rw[List.size_toArray,List.size_toArray];exact hz
  have e1:((List.range (min xs.length ys.length)).all (pairDeq xs ys)&&xs.length == ys.length)=(List.range ps.toArray.size).all (pairDeq xs ys):=by
   have:xs.length=ys.length:=by omega
   rw[List.size_toArray,n1,←this,Nat.min_self]
   simp
  rw[e1]
  exact⟨RcAt.lists hl hb hsz hu fun j j1 j2=>by simpa using he j (by simpa using j1) (by simpa using j2),RcNeAt.lists hl hb hsz hu fun j j1 j2=>by simpa using he j (by simpa using j1) (by simpa using j2)⟩
 ·have e1:((List.range (min xs.length ys.length)).all (pairDeq xs ys)&&xs.length == ys.length)=false:=by
   have:xs.length≠ys.length:=by omega
   simp[this]
  rw[e1]
  have hsz:(ps.toArray.size != qs.toArray.size)=true:=by rw[List.size_toArray,List.size_toArray];simpa using hz
  exact⟨RcAt.lists_lengths hl hb hsz hu,RcNeAt.lists_lengths hl hb hsz hu⟩
theorem rc_tt {A:Around}{l b:Addr}{ps qs:List Value}{xs ys:List DT}(hl:s.heap.IsTuple l ps.toArray)(hb:s.heap.IsTuple b qs.toArray)(n1:ps.length=xs.length)(n2:qs.length=ys.length)(hu:A.units<cLine)
  (he:∀j (h1:j<ps.length) (h2:j<qs.length),EqAt A.in1 s ps[j] qs[j] (pairDeq xs ys j)):RcAt A s (.ref l) (.ref b) (deqs xs ys)∧RcNeAt A s (.ref l) (.ref b) (!deqs xs ys):=by
 have e1:deqs xs ys=((List.range (min ps.toArray.size qs.toArray.size)).all (pairDeq xs ys)&&ps.toArray.size == qs.toArray.size):=by
  rw[deqs_eq,List.size_toArray,List.size_toArray,n1,n2]
 rw[e1]
 exact⟨RcAt.tuples hl hb hu fun j j1 j2=>by simpa using he j (by simpa using j1) (by simpa using j2),RcNeAt.tuples hl hb hu fun j j1 j2=>by simpa using he j (by simpa using j1) (by simpa using j2)⟩
mutual
theorem eqAt_D (I:Inv X pins σ H s):∀(d e:DT) (A:Around) (x y:V) (u v:Value),DatOk X.K H d x→DatOk X.K H e y→RelV x u→RelV y v→A.units+dep d<cLine→EqAt A s u v (deq d e)
 | .f w,.f w',A,x,y,u,v,h1,h2,ru,rv,hu=>by
  unfold DatOk at h1 h2
  obtain⟨rfl,f1⟩:=h1
  obtain⟨rfl,f2⟩:=h2
  unfold deq
  exact eqAt_V ru rv f1 f2
 | .f w,.l ys,A,x,y,u,v,h1,h2,ru,rv,hu=>by
  unfold DatOk at h1 h2
  obtain⟨rfl,f1⟩:=h1
  obtain⟨a,vs,rfl,q,_⟩:=h2
  cases rv
  obtain⟨its,_,p,_⟩:=I.list q
  unfold deq
  exact(eqAt_fl f1 ru p.isList (by unfold dep at hu;omega)).1
 | .f w,.t ys,A,x,y,u,v,h1,h2,ru,rv,hu=>by
  unfold DatOk at h1 h2
  obtain⟨rfl,f1⟩:=h1
  obtain⟨a,vs,rfl,q,_⟩:=h2
  cases rv
  obtain⟨its,_,p,_⟩:=I.tuple q
  unfold deq
  exact(eqAt_ft f1 ru (show s.heap.IsTuple a its.toArray from p) (by unfold dep at hu;omega)).1
 | .l xs,.f w,A,x,y,u,v,h1,h2,ru,rv,hu=>by
  unfold DatOk at h1 h2
  obtain⟨rfl,f1⟩:=h2
  obtain⟨a,vs,rfl,q,_⟩:=h1
  cases ru
  obtain⟨its,_,p,_⟩:=I.list q
  unfold deq
  exact(eqAt_fl f1 rv p.isList (by omega)).2.1
 | .t xs,.f w,A,x,y,u,v,h1,h2,ru,rv,hu=>by
  unfold DatOk at h1 h2
  obtain⟨rfl,f1⟩:=h2
  obtain⟨a,vs,rfl,q,_⟩:=h1
  cases ru
  obtain⟨its,_,p,_⟩:=I.tuple q
  unfold deq
  exact(eqAt_ft f1 rv (show s.heap.IsTuple a its.toArray from p) (by omega)).2.1
 | .l xs,.t ys,A,x,y,u,v,h1,h2,ru,rv,hu=>by
  unfold DatOk at h1 h2
  obtain⟨a,vs,rfl,q,_⟩:=h1
  obtain⟨b,ws,rfl,q',_⟩:=h2
  cases ru
  cases rv
  obtain⟨its,_,p,_⟩:=I.list q
  obtain⟨its',_,p',_⟩:=I.tuple q'
  unfold deq
  exact EqAt.list_tuple p.isList (show s.heap.IsTuple b its'.toArray from p') (by omega)
 | .t xs,.l ys,A,x,y,u,v,h1,h2,ru,rv,hu=>by
  unfold DatOk at h1 h2
  obtain⟨a,vs,rfl,q,_⟩:=h1
  obtain⟨b,ws,rfl,q',_⟩:=h2
  cases ru
  cases rv
  obtain⟨its,_,p,_⟩:=I.tuple q
  obtain⟨its',_,p',_⟩:=I.list q'
  unfold deq
  exact EqAt.tuple_list (show s.heap.IsTuple a its.toArray from p) p'.isList (by omega)
 | .l xs,.l ys,A,x,y,u,v,h1,h2,ru,rv,hu=>by
  by_cases hxy:x=y
  ·subst hxy
   rw[DatOk.uniq (K:=X.K) I (.l xs) (.l ys) x h1 h2]
   unfold DatOk at h1
   obtain⟨a,vs,rfl,_⟩:=h1
   cases ru
   cases rv
   exact EqAt.same _
  ·unfold DatOk at h1 h2
   obtain⟨a,vs,rfl,q,d1⟩:=h1
   obtain⟨b,ws,rfl,q',d2⟩:=h2
   cases ru
   cases rv
   obtain⟨its,r,p,_⟩:=I.list q
   obtain⟨its',r',p',_⟩:=I.list q'
   unfold deq
   unfold dep at hu
   refine EqAt.of_refs (fun e=>hxy (by rw[e])) (rc_ll p.isList p'.isList (by rw[←r.length,d1.length]) (by rw[←r'.length,d2.length]) (by omega) fun j j1 j2=>?_).1
   exact eqAts_D I xs ys A.in1 vs ws its its' d1 d2 r r' (by show A.units+1+_<_;omega) j j1 j2
 | .t xs,.t ys,A,x,y,u,v,h1,h2,ru,rv,hu=>by
  by_cases hxy:x=y
  ·subst hxy
   rw[DatOk.uniq (K:=X.K) I (.t xs) (.t ys) x h1 h2]
   unfold DatOk at h1
   obtain⟨a,vs,rfl,_⟩:=h1
   cases ru
   cases rv
   exact EqAt.same _
  ·unfold DatOk at h1 h2
   obtain⟨a,vs,rfl,q,d1⟩:=h1
   obtain⟨b,ws,rfl,q',d2⟩:=h2
   cases ru
   cases rv
   obtain⟨its,r,p,_⟩:=I.tuple q
   obtain⟨its',r',p',_⟩:=I.tuple q'
   unfold deq
   unfold dep at hu
   refine EqAt.of_refs (fun e=>hxy (by rw[e])) (rc_tt (show s.heap.IsTuple a its.toArray from p) (show s.heap.IsTuple b its'.toArray from p') (by rw[←r.length,d1.length]) (by rw[←r'.length,d2.length]) (by omega) fun j j1 j2=>?_).1
   exact eqAts_D I xs ys A.in1 vs ws its its' d1 d2 r r' (by show A.units+1+_<_;omega) j j1 j2
theorem eqAts_D (I:Inv X pins σ H s):∀(xs ys:List DT) (A:Around) (vs ws:List V) (ps qs:List Value),DatsOk X.K H xs vs→DatsOk X.K H ys ws→Vals vs ps→Vals ws qs→A.units+deps xs<cLine →
  ∀(j:Nat) (h1:j<ps.length) (h2:j<qs.length),EqAt A s ps[j] qs[j] (pairDeq xs ys j)
 | [],ys,A,vs,ws,ps,qs,d1,d2,r1,r2,hu,j,h1,h2=>by
  unfold DatsOk at d1
  subst d1
  cases r1
  exact absurd h1 (Nat.not_lt_zero _)
 | x::xs,[],A,vs,ws,ps,qs,d1,d2,r1,r2,hu,j,h1,h2=>by
  unfold DatsOk at d2
  subst d2
  cases r2
  exact absurd h2 (Nat.not_lt_zero _)
 | x::xs,y::ys,A,vs,ws,ps,qs,d1,d2,r1,r2,hu,j,h1,h2=>by
  unfold DatsOk at d1 d2
  obtain⟨v,vr,rfl,a1,a2⟩:=d1
  obtain⟨w,wr,rfl,b1,b2⟩:=d2
  unfold deps at hu
  cases r1 with
  | cons ru rus=>
   cases r2 with
   | cons rv rvs=>
    cases j with
    | zero=>
     have:=eqAt_D I x y A v w _ _ a1 b1 ru rv (by omega)
     simpa [pairDeq] using this
    | succ j=>
     have:=eqAts_D I xs ys A vr wr _ _ a2 b2 rus rvs (by omega) j (Nat.lt_of_succ_lt_succ h1) (Nat.lt_of_succ_lt_succ h2)
     simpa [pairDeq] using this
end
theorem rcs_D (I:Inv X pins σ H s){d e:DT}{A:Around}{x y:V}{u v:Value}(h1:DatOk X.K H d x)(h2:DatOk X.K H e y)(ru:RelV x u)(rv:RelV y v)(hu:A.units+dep d<cLine)(hn:¬(flatV x=true∧flatV y=true)):
  RcAt A s u v (deq d e)∧RcNeAt A s u v (!deq d e):=by
 cases d with
 | f w=>
  unfold DatOk at h1
  obtain⟨rfl,f1⟩:=h1
  cases e with
  | f w'=>
   unfold DatOk at h2
   obtain⟨rfl,f2⟩:=h2
   exact absurd ⟨f1,f2⟩ hn
  | l ys=>
   unfold DatOk at h2
   obtain⟨a,vs,rfl,q,_⟩:=h2
   cases rv
   obtain⟨its,_,p,_⟩:=I.list q
   have z:=eqAt_fl (A:=A) f1 ru p.isList (by omega)
   unfold deq
   exact⟨z.2.2.1,z.2.2.2.2.1⟩
  | t ys=>
   unfold DatOk at h2
   obtain⟨a,vs,rfl,q,_⟩:=h2
   cases rv
   obtain⟨its,_,p,_⟩:=I.tuple q
   have z:=eqAt_ft (A:=A) f1 ru (show s.heap.IsTuple a its.toArray from p) (by omega)
   unfold deq
   exact⟨z.2.2.1,z.2.2.2.2.1⟩
 | l xs=>
  unfold DatOk at h1
  obtain⟨a,vs,rfl,q,d1⟩:=h1
  cases ru
  obtain⟨its,r,p,_⟩:=I.list q
  cases e with
  | f w=>
   unfold DatOk at h2
   obtain⟨rfl,f1⟩:=h2
   have z:=eqAt_fl (A:=A) f1 rv p.isList (by omega)
   unfold deq
   exact⟨z.2.2.2.1,z.2.2.2.2.2⟩
  | l ys=>
   unfold DatOk at h2
   obtain⟨b,ws,rfl,q',d2⟩:=h2
   cases rv
   obtain⟨its',r',p',_⟩:=I.list q'
   unfold deq
   unfold dep at hu
   exact rc_ll p.isList p'.isList (by rw[←r.length,d1.length]) (by rw[←r'.length,d2.length]) (by omega) fun j j1 j2=>eqAts_D I xs ys A.in1 vs ws its its' d1 d2 r r' (by show A.units+1+_<_;omega) j j1 j2
  | t ys=>
   unfold DatOk at h2
   obtain⟨b,ws,rfl,q',d2⟩:=h2
   cases rv
   obtain⟨its',r',p',_⟩:=I.tuple q'
   unfold deq
   exact⟨RcAt.list_tuple p.isList (show s.heap.IsTuple b its'.toArray from p') (by omega),RcNeAt.list_tuple p.isList (show s.heap.IsTuple b its'.toArray from p') (by omega)⟩
 | t xs=>
  unfold DatOk at h1
  obtain⟨a,vs,rfl,q,d1⟩:=h1
  cases ru
  obtain⟨its,r,p,_⟩:=I.tuple q
  cases e with
  | f w=>
   unfold DatOk at h2
   obtain⟨rfl,f1⟩:=h2
   have z:=eqAt_ft (A:=A) f1 rv (show s.heap.IsTuple a its.toArray from p) (by omega)
   unfold deq
   exact⟨z.2.2.2.1,z.2.2.2.2.2⟩
  | t ys=>
   unfold DatOk at h2
   obtain⟨b,ws,rfl,q',d2⟩:=h2
   cases rv
   obtain⟨its',r',p',_⟩:=I.tuple q'
   unfold deq
   unfold dep at hu
   exact rc_tt (show s.heap.IsTuple a its.toArray from p) (show s.heap.IsTuple b its'.toArray from p') (by rw[←r.length,d1.length]) (by rw[←r'.length,d2.length]) (by omega) fun j j1 j2=>eqAts_D I xs ys A.in1 vs ws its its' d1 d2 r r' (by show A.units+1+_<_;omega) j j1 j2
  | l ys=>
   unfold DatOk at h2
   obtain⟨b,ws,rfl,q',d2⟩:=h2
   cases rv
   obtain⟨its',r',p',_⟩:=I.list q'
   unfold deq
   exact⟨RcAt.tuple_list (show s.heap.IsTuple a its.toArray from p) p'.isList (by omega),RcNeAt.tuple_list (show s.heap.IsTuple a its.toArray from p) p'.isList (by omega)⟩
end
def rEqD (K:PySem.W.Frag)(neg:Bool):R2:=fun x y H Q=>(scal x y=true∧Q (.bl (if neg then !decide (x=y) else decide (x=y))) H) ∨
 ∃d e,DatOk K H d x∧DatOk K H e y∧¬(flatV x=true∧flatV y=true)∧dep d≤60∧Q (.bl (if neg then !deq d e else deq d e)) H
theorem op_eqD {X:Cx}(hu:X.A.units+64<cLine):OpR X (compareOp .Eq) (rEqD X.K false):=by
 intro pins s σ H x y v u Q I rx ry h
 rcases h with⟨h1,q⟩|⟨d,e,h1,h2,hn,hd,q⟩
 ·exact op_eq pins s σ H x y v u Q I rx ry ⟨h1,q⟩
 ·exact(rcs_D I h1 h2 rx ry (by omega) hn).1 _ _ _ _ ⟨.bl _,H,I,rfl,q⟩
theorem op_neD {X:Cx}(hu:X.A.units+64<cLine):OpR X (compareOp .NotEq) (rEqD X.K true):=by
 intro pins s σ H x y v u Q I rx ry h
 rcases h with⟨h1,q⟩|⟨d,e,h1,h2,hn,hd,q⟩
 ·exact op_ne pins s σ H x y v u Q I rx ry ⟨h1,q⟩
 ·exact(rcs_D I h1 h2 rx ry (by omega) hn).2 _ _ _ _ ⟨.bl _,H,I,rfl,q⟩
theorem DatOk.same {K:PySem.W.Frag}{H H':Hp}(hl:∀a xs,SqL K H a xs→SqL K H' a xs)(ht:∀a xs,SqT K H a xs→SqT K H' a xs):∀ {d:DT} {v:V},DatOk K H d v→DatOk K H' d v:=by
 have both:∀d:DT,(∀v,DatOk K H d v→DatOk K H' d v):=by
  intro d
  refine DT.rec (motive_1:=fun d=>∀v,DatOk K H d v→DatOk K H' d v) (motive_2:=fun ds=>∀vs,DatsOk K H ds vs→DatsOk K H' ds vs) ?_ ?_ ?_ ?_ ?_ d
  ·intro w v h;unfold DatOk at h ⊢;exact h
  ·intro xs ih v h
   unfold DatOk at h ⊢
   obtain⟨a,vs,e,q,r⟩:=h
   exact⟨a,vs,e,hl a vs q,ih vs r⟩
  ·intro xs ih v h
   unfold DatOk at h ⊢
   obtain⟨a,vs,e,q,r⟩:=h
   exact⟨a,vs,e,ht a vs q,ih vs r⟩
  ·intro vs h;unfold DatsOk at h ⊢;exact h
  ·intro x xs h1 h2 vs h
   unfold DatsOk at h ⊢
   obtain⟨v,r,e,a,b⟩:=h
   exact⟨v,r,e,h1 v a,h2 r b⟩
 exact fun {d v} h=>both d v h
theorem Same.seqT {K:PySem.W.Frag}{H H':Hp}{a:Addr}{xs:List V}(e:Same H H')(h:SqT K H a xs):SqT K H' a xs:=by
 rcases h with (h | ⟨o,h⟩) | h
 ·exact .inl (.inl (e _ _ h))
 ·exact .inl (.inr ⟨o,e _ _ h⟩)
 ·exact .inr h
theorem Same.dat {K:PySem.W.Frag}{H H':Hp}(e:Same H H'){d:DT}{v:V}(h:DatOk K H d v):DatOk K H' d v:=h.same (fun _ _ q=>e.seq q) (fun _ _ q=>e.seqT q)
theorem datsFlat {K:PySem.W.Frag}{H:Hp}:∀ {vs:List V},vs.all flatV=true→DatsOk K H (vs.map DT.f) vs
 | [],_=>by unfold DatsOk;rfl
 | v::r,h=>by
  rw[List.all_cons,Bool.and_eq_true]at h
  rw[List.map_cons]
  unfold DatsOk
  exact⟨v,r,rfl,by unfold DatOk;exact⟨rfl,h.1⟩,datsFlat h.2⟩
theorem deps_flat (vs:List V):deps (vs.map DT.f)=0:=by
 induction vs with
 | nil=>rfl
 | cons v r ih=>rw[List.map_cons];unfold deps;rw[ih];rfl
theorem datL {K:PySem.W.Frag}{H:Hp}{a:Addr}{vs:List V}(h:SqL K H a vs)(hf:vs.all flatV=true):DatOk K H (.l (vs.map DT.f)) (.ref a):=by
 unfold DatOk
 exact⟨a,vs,rfl,h,datsFlat hf⟩
theorem datT {K:PySem.W.Frag}{H:Hp}{a:Addr}{vs:List V}(h:SqT K H a vs)(hf:vs.all flatV=true):DatOk K H (.t (vs.map DT.f)) (.ref a):=by
 unfold DatOk
 exact⟨a,vs,rfl,h,datsFlat hf⟩
theorem datF {K:PySem.W.Frag}{H:Hp}{v:V}(hf:flatV v=true):DatOk K H (.f v) v:=by
 unfold DatOk
 exact⟨rfl,hf⟩
end L2
namespace L2
open PySem PySem.Spec PyProof.Rows
open PySem.W (Frag findIn specialIn typeIn mroIn clsIn InstAt Looks)
def veMro:List Value:=[.type "ValueError",.type "Exception",.type "BaseException",.type "object"]
def isRefV:Value→Bool
 | .ref _=>true
 | _=>false
def xmro (l:List Value):Bool:=l.dropWhile isRefV == veMro
theorem xmro_ind {P:List Value→Prop}(h0:P veMro)(h1:∀c r,P r→P (.ref c::r)):∀l:List Value,xmro l=true→P l
 | [],e=>by simp[xmro,veMro]at e
 | v::r,e=>by
  cases hv:isRefV v with
  | true=>
   cases v with
   | ref c=>
    refine h1 c r (xmro_ind h0 h1 r ?_)
    unfold xmro at e ⊢
    rw[List.dropWhile_cons,if_pos hv]at e
    exact e
   | _=>cases hv
  | false=>
   unfold xmro at e
   rw[List.dropWhile_cons,if_neg (by rw[hv];exact Bool.false_ne_true)]at e
   rw[show (v::r)=veMro by simpa using e]
   exact h0
theorem refuse_ve (self:Value):refuseLoop self "__setattr__" veMro=pure ():=by
 first | rfl | kernel_rfl
theorem refuse_x (self:Value){l:List Value}(e:xmro l=true):refuseLoop self "__setattr__" l=pure ():=
 xmro_ind (P:=fun l=>refuseLoop self "__setattr__" l=pure ()) (refuse_ve self) (fun c r h=>by rw[refuseLoop_ref];exact h) l e
theorem xmro_has {n:String}{b:Bool}(h:veMro.contains (.type n)=b){l:List Value}(e:xmro l=true):l.contains (.type n)=b:=
 xmro_ind (P:=fun l=>l.contains (.type n)=b) h (fun c r h=>by rw[List.contains_cons,h];rfl) l e
structure Xc (K:Frag)(C:Addr):Prop where
 ga:findIn K (.ref C) "__getattribute__"=some (some (.builtin "BaseException.__getattribute__"))
 gr:findIn K (.ref C) "__getattr__"=some none
 sa:findIn K (.ref C) "__setattr__"=some (some (.builtin "object.__setattr__"))
 hd:PySem.W.hasDictIn K C=true
 mr:(clsIn K C).any (fun cd=>xmro cd.mro)=true
theorem xmro_ne {l:List Value}(e:xmro l=true):l.isEmpty=false:=by
 cases l with
 | nil=>simp[xmro,veMro]at e
 | cons _ _=>rfl
theorem Xc.base {K:Frag}{C:Addr}(c:Xc K C){n:String}{b:Bool}(h:veMro.contains (.type n)=b):mroIn K C (.type n)=some b:=by
 obtain⟨cd,hc,hm⟩:=PySem.W.any_some c.mr
 unfold PySem.W.mroIn
 rw[hc,Option.bind_some,if_neg (by rw[xmro_ne hm];exact Bool.false_ne_true),xmro_has h hm]
def xo (a C:Addr)(d:Option Addr):HO:=.ext fun h=>∃(o:Obj) (t:Addr),h.get? a=some o∧o.cls=.ref C∧o.dict=d∧o.data=.fields #[.ref t,.none,.none,.none,.bool false,.none]
def xdO (d:Addr)(fs:List (Str×V)):HO:=.ext fun h=>fs.length≤1000∧∃mA,h.Ns1 d mA∧(∀f,RelO (fs.lookup f) (mA f))∧PySem.Within mA (fs.map (·.1))
inductive XAt (H:Hp) (e C:Addr):List (Str×V)→Prop where
 | bare:H e=some (xo e C none)→XAt H e C []
 | full {d:Addr} {fs:List (Str×V)}:H e=some (xo e C (some d))→H d=some (xdO d fs)→d≠e→XAt H e C fs
theorem upd_id {H:Hp}{a:Addr}{o:HO}(h:H a=some o):upd H a o=H:=by
 funext b
 unfold upd
 by_cases hb:b=a
 ·rw[if_pos hb,hb,h]
 ·rw[if_neg hb]
theorem XAt.same {H H':Hp}{e C:Addr}{fs:List (Str×V)}(x:XAt H e C fs)(s:Same H H'):XAt H' e C fs:=by
 cases x with
 | bare h=>exact .bare (s _ _ h)
 | full h1 h2 h3=>exact .full (s _ _ h1) (s _ _ h2) h3
section
variable {X:Cx}{pins:List (Addr×Obj)}{σ:St}{H:Hp}{s:Shared}{e C:Addr}{fs:List (Str×V)}{f:Str}{v:V}{A:Around}{E:Value→Shared→Prop}
theorem xo_obj {d:Option Addr}(I:Inv X pins σ H s)(h:H e=some (xo e C d)):∃(o:Obj) (t:Addr),s.heap.get? e=some o∧o.cls=.ref C∧o.dict=d∧o.data=.fields #[.ref t,.none,.none,.none,.bool false,.none]:=(I.hok e _ h).1
theorem xo_ok {P:Program}{w:World}{H:Hp}{h:Heap}{d:Option Addr}{o:Obj}{t:Addr}(h1:h.get? e=some o)(h2:o.cls=.ref C)(h3:o.dict=d)(h4:o.data=.fields #[.ref t,.none,.none,.none,.bool false,.none]):ObjOk P w H h e (xo e C d):=
 ⟨⟨o,t,h1,h2,h3,h4⟩,⟨o,h1⟩,fun a b ⟨o,t,q1,q⟩ k=>⟨o,t,k o q1,q⟩⟩
theorem xdO_ok {P:Program}{w:World}{H:Hp}{h:Heap}{d:Addr}{mA:Str→Option Value}(hz:fs.length≤1000)(h1:h.Ns1 d mA)(h2:∀f,RelO (fs.lookup f) (mA f))(h3:PySem.Within mA (fs.map (·.1))):ObjOk P w H h d (xdO d fs):=by
 obtain⟨o,es,ep,ho,r⟩:=id h1
 refine⟨⟨hz,mA,h1,h2,h3⟩,⟨o,ho⟩,fun a b ⟨hz,m,⟨o,es,ep,q,r⟩,z⟩ k=>⟨hz,m,⟨o,es,ep,k o q,r⟩,z⟩⟩
theorem XAt.inst (I:Inv X pins σ H s)(x:XAt H e C fs):∃(ox:Obj) (od:Option Obj),InstAt s.heap e ox C od∧∀name,∃r,(match od with | some o=>PySem.W.lookIn name o | none=>some none)=some r∧RelO (fs.lookup name) r:=by
 cases x with
 | bare h=>
  obtain⟨o,t,h1,h2,h3,h4⟩:=xo_obj I h
  exact⟨o,none,⟨h1,h2,by unfold PySem.W.notCls;rw[h4],by rw[h3];trivial⟩,fun name=>⟨none,rfl,by trivial⟩⟩
 | @full d _ h h' hne=>
  obtain⟨o,t,h1,h2,h3,h4⟩:=xo_obj I h
  obtain⟨⟨_,mA,hn,hr,_⟩,_⟩:=I.hok d _ h'
  obtain⟨od,hod,hl⟩:=lookIn_ns hn
  exact⟨o,some od,⟨h1,h2,by unfold PySem.W.notCls;rw[h4],by rw[h3];exact hod⟩,fun name=>⟨mA name,hl name,hr name⟩⟩
theorem entry_bga:entryFor table "BaseException.__getattribute__"=some Builtin.«object.__getattribute__»:=F.entry_bexc_ga
theorem xget_value {K:Frag}{x:Addr}{ox:Obj}{od:Option Obj}{name:Str}{expr:Bool}{u:Value}{prog:Program}{w:World}{Q:Value→Shared→Prop}(KX:K.In s.heap)(I:InstAt s.heap x ox C od)(c:Xc K C)
  (hf:PySem.W.findObj K C od name=some (.value u)) (hh:PySem.W.handedIn u=true) (h:Q u { s with toks:=s.toks+1 }):wpAny (model prog w) A (getAttr (.ref x) name expr) Q E s:=by
 obtain⟨hp,g,d,t,os⟩:=s
 have L0:=I.type (M:=model prog w)
 have L1:=PySem.W.looks_findIn (M:=model prog w) KX c.ga
 have L2:=PySem.W.looks_findIn (M:=model prog w) KX c.gr
 have L3:=PySem.W.looks_find (M:=model prog w) KX I hf
 have L4:=PySem.W.looks_mroIn (M:=model prog w) KX (c.base (n:="BaseException") (b:=true) (by decide +kernel))
 have hx2:(Value.builtin "BaseException.__getattribute__" == Value.builtin "object.__getattribute__")=false:=by decide +kernel
 have slot:=F.excAttr_ValueError.ga
 unfold getAttr getAttrBy
 refine wpAny_bind (wpAny_mkText (wpAny_holding (wpAny_bind (L0.at (wpAny_bind (L1.at ?_))))))
 dsimp only
 rw[hx2,Bool.and_false,if_neg Bool.false_ne_true]
 unfold getAttrByItsOwn hookBefore
 refine wpAny_bind ?_
 show wpAny _ _ (if onTheHeap (Value.ref C)=true then typeLookup (.ref C) "__getattr__" else pure none) _ _ _
 rw[if_pos (show onTheHeap (Value.ref C)=true from rfl)]
 refine L2.at (wpAny_bind (wpAny_attempt (wpAny_holding ?_)))
 unfold callGetattribute
 rw[show (expr&&onTheHeap (Value.builtin "BaseException.__getattribute__"))=false from Bool.and_false _,if_neg Bool.false_ne_true]
 unfold boundAndCalled
 rw[slot.bind]
 refine wpAny_bind (wpAny_pure ?_)
 show wpAny _ _ (call (.builtin "BaseException.__getattribute__") [.ref x,.str name t]) _ _ _
 refine wpAny_call (codeAny_call_builtin slot.plain entry_bga ?_)
 refine @PySem.W.check_slot (model prog w) _ _ ⟨hp,g,d,t+1,os⟩ "BaseException.__getattribute__" "BaseException" "__getattribute__" (.ref x) [.str name t] [] _ (by decide +kernel) (by decide +kernel) (L0.andThen L4) (F.args_bexc_ga (.ref x) (.str name t)) ?_
 refine wpAny_bind (wpAny_pure (wpAny_bind (wpAny_pure (wpAny_bind (L0.at (wpAny_bind (L3.at (wpAny_pure ?_))))))))
 show wpAny _ _ (handedOut u) _ _ _
 rw[PySem.W.handedOut_of hh]
 exact wpAny_pure h
theorem xset {y:V}{u:Value}{Q:Unit→Shared→Prop}(I:Inv X pins σ H s)(x:XAt H e C fs)(c:Xc X.K C)(n:NoAttr X.K C f)(hz:fs.length<1000)(ry:RelV y u)
  (h:∀s' H',Inv X pins σ H' s'→XAt H' e C (putF f y fs)→(∀b o,H b=some o→b≠e→(∀d,H e=some (xo e C (some d))→b≠d)→H' b=some o) →
   (∃d,H' e=some (xo e C (some d))∧(H e=some (xo e C (some d))∨H d=none))→Q () s'):wpAny (model X.prog X.w) A (setAttr (.ref e) f u) Q E s:=by
 obtain⟨ox,od,J,hr⟩:=x.inst I
 obtain⟨cd,hc,hd'⟩:=PySem.W.any_some c.hd
 obtain⟨cd',hc2,hm⟩:=PySem.W.any_some c.mr
 rw[hc]at hc2;cases hc2
 refine PySem.W.set_plain I.kIn J c.sa ?_
 have SF:=PySem.F.store_object
 have hne:=xmro_ne hm
 have KX:X.K.In ({ s with toks:=s.toks+1 }:Shared).heap:=I.kIn
 have J1:InstAt ({ s with toks:=s.toks+1 }:Shared).heap e ox C od:=J
 have L1:Looks (model X.prog X.w) s.heap (mroOf (.ref C)) cd.mro:=(PySem.W.looks_clsIn I.kIn hc).andThen .now
 have sub:Looks (model X.prog X.w) s.heap (isInstance (.ref e) (.type "object")) true:=J.type.andThen (PySem.W.looks_mroIn I.kIn (c.base (n:="object") (b:=true) (by decide +kernel)))
 refine codeAny_call_builtin SF.slot.plain SF.entry (@PySem.W.check_slot (model X.prog X.w) _ _ { s with toks:=s.toks+1 } "object.__setattr__" "object" "__setattr__" (.ref e) [.str f s.toks,u] [] _ SF.kind SF.split sub (SF.args (.ref e) (.str f s.toks) u) ?_)
 rw[PySem.W.osa_eq,refuse_eq]
 refine wpAny_bind (wpAny_bind (Looks.here (s:={ s with toks:=s.toks+1 }) J.type (wpAny_bind (Looks.here (s:={ s with toks:=s.toks+1 }) L1 ?_))))
 rw[refuse_x _ hm]
 refine wpAny_pure (wpAny_bind (Looks.here (s:={ s with toks:=s.toks+1 }) J.type (wpAny_bind (Looks.here (s:={ s with toks:=s.toks+1 }) (PySem.W.looks_findIn I.kIn n) (wpAny_bind (wpAny_pure ?_))))))
 dsimp only
 refine wpAny_bind (wpAny_pure (wpAny_bind (wpAny_bind ?_)))
 have LC:=PySem.W.looks_clsIn (M:=model X.prog X.w) I.kIn hc
 cases x with
 | bare hb=>
  obtain⟨o,t,h1,h2,h3,h4⟩:=xo_obj I hb
  obtain⟨oc,odi,oda,osl⟩:=o
  dsimp only at h2 h3 h4
  subst h2 h3 h4
  refine wpAny_loadPart h1 (wpAny_bind (Looks.here (s:={ s with toks:=s.toks+1 }) LC ?_))
  rw[hd']
  refine wpAny_bind (wpAny_alloc (wpAny_bind (wpAny_update (Heap.get?_push_of_some _ h1) (wpAny_pure ?_))))
  dsimp only
  refine wpAny_bind (wpAny_pure (wpAny_bind ?_))
  have hlt:e<s.heap.objs.size:=Heap.lt_size h1
  have hfr:=I.fresh
  have hed:s.heap.objs.size≠e:=Nat.ne_of_gt hlt
  have ee:(s.heap.push PySem.W.emptyDict).get? s.heap.objs.size=some PySem.W.emptyDict:=Heap.get?_push_size s.heap rfl
  have e2:((s.heap.push PySem.W.emptyDict).update e fun o=>{ o with dict:=some s.heap.objs.size }).get? e=some ⟨.ref C,some s.heap.objs.size,.fields #[.ref t,.none,.none,.none,.bool false,.none],osl⟩:=Heap.get?_update_self _ (Heap.get?_push_of_some _ h1) rfl
  have e3:((s.heap.push PySem.W.emptyDict).update e fun o=>{ o with dict:=some s.heap.objs.size }).get? s.heap.objs.size=some PySem.W.emptyDict:=by
   rw[Heap.get?_update_other _ _ (Ne.symm hed)];exact ee
  have ns:((s.heap.push PySem.W.emptyDict).update e fun o=>{ o with dict:=some s.heap.objs.size }).Ns s.heap.objs.size (fun _=>none):=⟨PySem.W.emptyDict,#[],_,e3,rfl,(fun e he=>absurd he (by simp)),fun _=>rfl⟩
  have ns1:=Heap.Ns1.of_empty ns
  have I1:=I.laid (a:=s.heap.objs.size) (o:=xdO s.heap.objs.size []) (h':=s.heap.push PySem.W.emptyDict) (t':=s.toks+1) (fun b u q=>Heap.get?_push_of_some _ q) (Nat.le_refl _)
   (xdO_ok (fs:=[]) (Nat.zero_le _) (Heap.Ns1.of_empty (h:=s.heap.push PySem.W.emptyDict) ⟨PySem.W.emptyDict,#[],_,ee,rfl,(fun e he=>absurd he (by simp)),fun _=>rfl⟩) (fun _=>by trivial) (fun y hy=>absurd rfl hy))
  have I2:=I1.write (x:=e) (e:=e) (o:=xo e C (some s.heap.objs.size)) (h':=(s.heap.push PySem.W.emptyDict).update e fun o=>{ o with dict:=some s.heap.objs.size }) (t':=s.toks+1)
   (by rw[upd_ne (Ne.symm hed),hb];exact trivial) (.inl rfl) (fun b u hbe q=>by rw[Heap.get?_update_other _ _ (Ne.symm hbe)];exact q) ⟨_,e2⟩ (xo_ok e2 rfl rfl rfl)
  refine wpAny_nsSet1 (s:={ s with heap:=(s.heap.push PySem.W.emptyDict).update e fun o=>{ o with dict:=some s.heap.objs.size },toks:=s.toks+1 }) ns1 fun h' hn2 hs2=>?_
  have hw:PySem.Within (fun x=>if x=f then some u else none) [f]:=fun z hz=>by
   by_cases q:z=f
   ·rw[q];exact List.mem_cons_self
   ·exact absurd (if_neg q) hz
  obtain⟨oD,esD,epD,hoD,hdD,hcD⟩:=hn2.count hw
  refine wpAny_bind (wpAny_lookBehind hoD (by rw[hdD];exact pastItsLine_dict (Nat.le_trans hcD (by rw[List.length_singleton,sizeLine_eq];decide))) ?_)
  refine wpAny_pure (h _ _ (I2.write (x:=s.heap.objs.size) (e:=s.heap.objs.size) (o:=xdO s.heap.objs.size [(f,y)]) (h':=h') (t':=s.toks+1+1) ?_ (.inl rfl) (fun b u' hb' q=>(hs2.2 b hb').trans q) ⟨oD,hoD⟩ (xdO_ok (by show 1≤1000;decide) hn2 ?_ hw)) ?_ ?_ ⟨_,(by rw[upd_ne (Ne.symm hed),upd_same]),.inr hfr⟩)
  ·rw[upd_ne hed,upd_same];exact trivial
  ·intro g
   show RelO (List.lookup g [(f,y)]) (if g=f then some u else none)
   by_cases q:g=f
   ·rw[if_pos q,q];simp[List.lookup_cons];exact ry
   ·have hbq:(g == f)=false:=by simpa using q
    rw[if_neg q];simp[List.lookup_cons,hbq];trivial
  ·refine .full (d:=s.heap.objs.size) (by rw[upd_ne (Ne.symm hed),upd_same]) ?_ hed
   rw[upd_same];rfl
  ·intro b o' hb' hbe _
   have nb:b≠s.heap.objs.size:=ne_of_none hb' hfr
   rw[upd_ne nb,upd_ne hbe,upd_ne nb]
   exact hb'
 | @full d _ hb hd2 hne2=>
  obtain⟨o,t,h1,h2,h3,h4⟩:=xo_obj I hb
  obtain⟨oc,odi,oda,osl⟩:=o
  dsimp only at h2 h3 h4
  subst h2 h3 h4
  obtain⟨⟨hz',mA,hn,hr',hw⟩,_⟩:=I.hok d _ hd2
  refine wpAny_loadPart h1 (wpAny_bind (Looks.here (s:={ s with toks:=s.toks+1 }) LC ?_))
  rw[hd']
  refine wpAny_pure ?_
  dsimp only
  refine wpAny_bind (wpAny_pure (wpAny_bind ?_))
  refine wpAny_nsSet1 (s:={ s with toks:=s.toks+1 }) hn fun h' hn2 hs2=>?_
  obtain⟨oD,esD,epD,hoD,hdD,hcD⟩:=hn2.count (PySem.Within.cons f u hw)
  refine wpAny_bind (wpAny_lookBehind hoD (by rw[hdD];exact pastItsLine_dict (Nat.le_trans hcD (by rw[List.length_cons,List.length_map,sizeLine_eq];omega))) ?_)
  refine wpAny_pure (h _ _ (I.write (x:=d) (e:=d) (o:=xdO d (putF f y fs)) (h':=h') (t':=s.toks+1+1) (by rw[hd2];exact trivial) (.inl rfl) (fun b u' hb' q=>(hs2.2 b hb').trans q) ⟨oD,hoD⟩ (xdO_ok ?_ hn2 ?_ ?_)) ?_ ?_ ⟨d,(by rw[upd_ne (Ne.symm hne2)];exact hb),.inl hb⟩)
  ·have:=length_putF f y fs;omega
  ·intro g
   show RelO ((putF f y fs).lookup g) (if g=f then some u else mA g)
   rw[lookup_putF]
   by_cases q:g=f
   ·rw[if_pos q,if_pos q];exact ry
   ·rw[if_neg q,if_neg q];exact hr' g
  ·intro g hg
   by_cases q:g=f
   ·rw[q];exact(keys_putF f y fs).1
   ·refine(keys_putF f y fs).2 g (hw g fun z=>hg ?_)
    show (if g=f then some u else mA g)=none
    rw[if_neg q];exact z
  ·exact .full (d:=d) (by rw[upd_ne (Ne.symm hne2)];exact hb) upd_same hne2
  ·intro b o' hb' hbe hbd
   rw[upd_ne (hbd d hb)]
   exact hb'
end
abbrev xraw (C t:Addr):Obj:={ cls:=.ref C,data:=.fields #[.ref t,.none,.none,.none,.bool false,.none] }
abbrev tupO (vs:List Value):Obj:={ cls:=.type "tuple",data:=.seq vs.toArray }
structure Xm (K:Frag)(C:Addr):Prop where
 c:Xc K C
 ob:∃(nm q:Str) (N:Addr) (bs bm:List Value) (hdct:Bool) (sn:List Str) (sub:List Value) (ab:Bool) (col:Option Bool) (dd:Option Addr) (k0 k1 k2 k3 k5:Option Value),
  K.lookup C=some (excClassObj nm q C N bs bm hdct sn sub ab col dd k0 k1 k2 k3 k5 "ValueError.__new__")
 kp:PySem.W.keepIn K (.ref C)=true
section
variable {prog:Program}{w:World}{A:Around}{E:Value→Shared→Prop}{h:Heap}{g:Array GenState}{d:Drawn}{t:Nat}{os:OsState}{K:Frag}
variable {nm q:Str}{C N:Addr}{bs bm:List Value}{hdct:Bool}{sn:List Str}{sub:List Value}{ab:Bool}{col:Option Bool}{dd:Option Addr}{k0 k1 k2 k3 k5:Option Value}
theorem xnew_check {M:Model} {rest:List Value} {Q:Unit→Shared→Prop} (hx:xmro (.ref C::bm)=true) (hC:h.get? C=some (excClassObj nm q C N bs bm hdct sn sub ab col dd k0 k1 k2 k3 k5 "ValueError.__new__"))
  (hq:Q () ⟨h,g,d,t,os⟩):wpAny M A (checkBuiltinCall "ValueError.__new__" ⟨.ref C::rest,[]⟩) Q E ⟨h,g,d,t,os⟩:=by
 have Fn:=F.excBase_ValueError
 have hcB:=xmro_has (n:="ValueError") (b:=true) (by decide +kernel) hx
 have hstar:=Fn.noStar
 simp only[checkBuiltinCall,Fn.newKind,Fn.newSplit,Fn.newRow]
 repeat (first | refine wpAny_loadPart_at hC ?_ | (refine wpAny_isSubtype_exc hC ?_;rw[hcB]) | refine wpAny_staticBase_exc hC ?_ | refine wpAny_madeBy_exc hC ?_ | simp only[bne_self_eq_false,Bool.false_eq_true,if_false] | wp_step)
 exact hq
theorem xnew {R:Result→Shared→Prop} {rest:List Value} (hx:xmro (.ref C::bm)=true) (hC:h.get? C=some (excClassObj nm q C N bs bm hdct sn sub ab col dd k0 k1 k2 k3 k5 "ValueError.__new__"))
  (hq:R (.ok (.ret (.ref (h.objs.size+1)))) ⟨(h.push (tupO rest)).push (xraw C h.objs.size),g,d,t,os⟩) (hrest:rest.length≤sizeLine):
  codeAny (model prog w) A (.builtin "ValueError.__new__" ⟨.ref C::rest,[]⟩) R ⟨h,g,d,t,os⟩:=by
 have Fn:=F.excBase_ValueError
 have hends:=Fn.ends
 have hcB:=xmro_has (n:="ValueError") (b:=true) (by decide +kernel) hx
 have hcA:=xmro_has (n:="AttributeError") (b:=false) (by decide +kernel) hx
 have hcN:=xmro_has (n:="NameError") (b:=false) (by decide +kernel) hx
 refine codeAny_builtinAt Fn.entry ?_
 unfold Builtin.«BaseException.__new__»
 refine PySem.wpAt_bind ?_
 show PySem.wpAt _ _ _ (stack >>= _) _ _ _
 refine PySem.wpAt_bind (PySem.wpAt_stack fun p below=>PySem.wpAt_of_wpAny ?_)
 wp_walk
 refine PySem.wpAt_of_wpAny ?_
 rw[Fn.owner]
 repeat (first | with_reducible refine wpAny_madeHere_exc Fn.canon hC ?_ | with_reducible refine wpAny_loadPart_at hC ?_ | (with_reducible refine wpAny_isSubtype_exc hC ?_;first | rw[hcB] | rw[hcA] | rw[hcN]) | wp_step)
 show R _ _
 rw[Heap.size_push]
 exact hq
theorem xcall {R:Result→Shared→Prop} {rest:List Value} {init:Value} (KX:K.In h) (hx:xmro (.ref C::bm)=true) (hC:h.get? C=some (excClassObj nm q C N bs bm hdct sn sub ab col dd k0 k1 k2 k3 k5 "ValueError.__new__"))
  (hi:Looks (model prog w) h (typeLookup (.ref C) "__init__") (some init)) (hb:∀self,Looks (model prog w) h (bindSpecial init self) (init,[self])) (hrest:rest.length≤sizeLine)
  (hq:codeAny (model prog w) (A.under (.builtin "type.__call__" ⟨.ref C::rest,[]⟩)) (.call init ⟨.ref (h.objs.size+1)::rest,[]⟩) (PySem.W.InitBack (h.objs.size+1) R) ⟨(h.push (tupO rest)).push (xraw C h.objs.size),g,d,t,os⟩):
  codeAny (model prog w) A (.call (.ref C) ⟨rest,[]⟩) R ⟨h,g,d,t,os⟩:=by
 have f1:=tc_lookup
 have f2:=tc_bind (.ref C)
 have hT:(⟨h,g,d,t,os⟩:Shared).TypeIs (.ref C) "type":=⟨_,hC,rfl⟩
 have Fn:=F.excBase_ValueError
 refine codeAny_of_tree ?_
 show wpAny _ _ (callAny (.ref C) _) _ _ _
 repeat (any_goals (first | assumption | with_reducible refine wpAny_loadPart_at hC ?_ | wp_step))
 refine⟨rfl,?_⟩
 refine codeAny_call_builtin_at (Code.quiet_builtin _ (by decide +kernel)) entry_typeCall (wpAny_check_type_call_sub hC ?_)
 repeat (first | with_reducible refine wpAny_loadPart_at hC ?_ | with_reducible refine wpAny_madeBy_exc hC ?_ | wp_step)
 refine codeAny_call_builtin_code (Code.quiet_builtin _ Fn.quiet) (xnew_check hx hC ?_)
 refine xnew hx hC ?_ hrest
 show wpAny _ _ _ _ _ _
 have k:∀b o,h.get? b=some o→((h.push (tupO rest)).push (xraw C h.objs.size)).get? b=some o:=fun b o e=>Heap.get?_push_of_some _ (Heap.get?_push_of_some _ e)
 have hC1:=k _ _ hC
 have hget:((h.push (tupO rest)).push (xraw C h.objs.size)).get? (h.objs.size+1)=some { cls:=.ref C,data:=.fields #[.ref h.objs.size,.none,.none,.none,.bool false,.none] }:=by heap_get
 have hcC:(Value.ref C::bm).contains (.ref C)=true:=by simp
 have i1:=hi.keeps k
 have b1:=(hb (.ref (h.objs.size+1))).keeps k
 have t1:Looks (model prog w) ((h.push (tupO rest)).push (xraw C h.objs.size)) (typeOf (.ref (h.objs.size+1))) (.ref C):=(Looks.ld hget).andThen .now
 unfold isInstance
 repeat (first | with_reducible refine wpAny_loadPart_at hget ?_ | (with_reducible refine wpAny_isSubtype_exc hC1 ?_;rw[hcC]) | wp_step)
 refine wpAny_isSubtype_exc hC1 ?_
 rw[hcC]
 repeat (first | with_reducible refine wpAny_loadPart_at hget ?_ | wp_step)
 show wpAny _ _ (typeLookup (.ref C) _) _ _ _
 refine i1.at (wpAny_holding (wpAny_bind (b1.at ?_)))
 refine wpAny_bind (wpAny_call ?_)
 refine codeAny_mono hq fun r s' z=>?_
 rcases r with e | (v | _ | _ | _)<;>first | exact z | exact z.elim | skip
 obtain⟨rfl,z⟩:=z
 exact wpAny_pure (wpAny_pure z)
end
section
variable {X:Cx}{pins:List (Addr×Obj)}{σ:St}{H:Hp}{s:Shared}{C:Addr}{us:List Value}{vs:List V}{Q:VK}
theorem Inv.xmade (I:Inv X pins σ H s):Inv X pins σ (upd H (s.heap.objs.size+1) (xo (s.heap.objs.size+1) C none)) { s with heap:=(s.heap.push (tupO us)).push (xraw C s.heap.objs.size) }:=by
 have I1:Inv X pins σ H { s with heap:=s.heap.push (tupO us) }:=I.kept (t':=s.toks) fun b o e=>Heap.get?_push_of_some _ e
 have e2:((s.heap.push (tupO us)).push (xraw C s.heap.objs.size)).get? (s.heap.objs.size+1)=some (xraw C s.heap.objs.size):=by
  have:=Heap.get?_push_size (s.heap.push (tupO us)) (o:=xraw C s.heap.objs.size) rfl
  rwa [Heap.size_push]at this
 exact I1.laid (a:=s.heap.objs.size+1) (t':=s.toks) (fun b u q=>Heap.get?_push_of_some _ q) (Nat.le_of_eq (Heap.size_push _ _)) (xo_ok e2 rfl rfl rfl)
theorem xinit_run {e:Addr}{d:Option Addr}{R:Result→Shared→Prop}(I:Inv X pins σ H s)(m:Xm X.K C)(hx:H e=some (xo e C d))(hz:us.length≤sizeLine)(A:Around)
    (h:∀s',Inv X pins σ H s'→R (.ok (.ret .none)) s'):codeAny (model X.prog X.w) A (.call (.builtin "ValueError.__init__") ⟨.ref e::us,[]⟩) R s:=by
  have Fn:=F.excBase_ValueError
  have c:=m.c
  obtain⟨nm,qn,N,bs,bm,hdct,sn,sub,ab,col,dd,k0,k1,k2,k3,k5,lC⟩:=m.ob
  have hC:=I.kIn _ _ lC
  obtain⟨o,t,h1,h2,h3,h4⟩:=xo_obj I hx
  obtain⟨oc,od,oda,osl⟩:=o
  dsimp only at h2 h3 h4
  subst h2 h3 h4
  have L:Looks (model X.prog X.w) s.heap (isInstance (.ref e) (.type "ValueError")) true:=((Looks.ld h1).andThen .now).andThen (PySem.W.looks_mroIn I.kIn (c.base (n:="ValueError") (b:=true) (by decide +kernel)))
  obtain⟨hp,g,dr,tk,os⟩:=s
  refine codeAny_call_builtin Fn.init.plain Fn.initEntry ?_
  have hshort:=Fn.noStar
  simp only[checkBuiltinCall,Fn.initKind,Fn.initSplit,Fn.initRow]
  refine wpAny_bind (L.at ?_)
  simp only[Bool.not_true,Bool.false_eq_true,if_false]
  have fin:wpAny (model X.prog X.w) A.in1 (Builtin.«BaseException.__init__» ⟨.ref e::us,[]⟩) (fun fin s'=>match fin with | .done f=>R (.ok f) s' | .again c'=>c'.quiet=true∧codeAny (model X.prog X.w) A c' R s') (fun e s'=>R (.error e) s') ⟨hp,g,dr,tk,os⟩:=by
    have hlt:e<hp.objs.size:=Heap.lt_size h1
    wp_walk
    refine h _ ?_
    have I1:Inv X pins σ H { (⟨hp,g,dr,tk,os⟩:Shared) with heap:=hp.push (tupO us) }:=I.kept (t':=tk) fun b o e=>Heap.get?_push_of_some _ e
    have e2:=Heap.get?_update_self (Obj.mapFields (·.setIfInBounds 0 (Value.ref hp.objs.size))) (Heap.get?_push_of_some (h:=hp) (tupO us) h1) rfl
    have I2:=I1.write (x:=e) (e:=e) (o:=xo e C od) (h':=(hp.push (tupO us)).update e (Obj.mapFields (·.setIfInBounds 0 (Value.ref hp.objs.size)))) (t':=tk) (by rw[hx];exact trivial) (.inl rfl)
      (fun b u hb q=>by rw[Heap.get?_update_other _ _ (Ne.symm hb)];exact q) ⟨_,e2⟩ (xo_ok e2 rfl rfl rfl)
    rw[upd_id hx]at I2
    exact I2
  repeat (first | with_reducible refine wpAny_loadPart_at hC ?_ | (with_reducible refine wpAny_load hC ?_) | with_reducible refine wpAny_loadPart_at h1 ?_ | wp_step)
  first
    | (refine wpAny_onRaise ?_
       rw[show ∀(a b:String) (n:Nat),Bind.check ⟨.positional,"*","ValueError",.self,[⟨"args",.varPos,false⟩]⟩ a b n (List.map (fun x=>x.fst) ({ pos:=Value.ref e::us }:Args).kw)=pure () from fun a b n=>check_star_args _ _ _ _ _ _]
       exact wpAny_pure fin)
    | skip
end
structure Xi (K:Frag)(C:Addr):Prop where
 c:Xc K C
 ha:findIn K (.ref C) "__class__"=some (some (.builtin "object.__class__"))
 hn:specialIn K (.builtin "object.__class__") "__get__"=some (some (.builtin "getset_descriptor.__get__"))
 htk:PySem.W.takesIn K (.builtin "object.__class__")=some true
section
variable {K:Frag}{x C:Addr}{ox:Obj}{od:Option Obj}{prog:Program}{w:World}{A:Around}{E:Value→Shared→Prop}{s:Shared}
theorem xclass {Q:Option Value→Shared→Prop}(i:Xi K C)(KX:K.In s.heap)(I:InstAt s.heap x ox C od)(h:Q (some (.ref C)) { s with toks:=s.toks+1 }):wpAny (model prog w) A (getAttr? (.ref x) "__class__") Q E s:=by
 have c:=i.c
 have hf:PySem.W.findObj K C od "__class__"=some (.bind (.builtin "getset_descriptor.__get__") (.builtin "object.__class__")):=by
  obtain⟨cd,hc,_⟩:=PySem.W.any_some c.hd
  unfold PySem.W.findObj
  rw[hc,i.ha]
  simp only[Option.bind_some,i.hn,i.htk]
 obtain⟨hp,g,d,t,os⟩:=s
 have L0:=I.type (M:=model prog w)
 have L1:=PySem.W.looks_findIn (M:=model prog w) KX c.ga
 have L2:=PySem.W.looks_findIn (M:=model prog w) KX c.gr
 have L3:=PySem.W.looks_find (M:=model prog w) KX I hf
 have L4:=PySem.W.looks_mroIn (M:=model prog w) KX (c.base (n:="BaseException") (b:=true) (by decide +kernel))
 have hm:=c.base (n:="object") (b:=true) (by decide +kernel)
 have hx2:(Value.builtin "BaseException.__getattribute__" == Value.builtin "object.__getattribute__")=false:=by decide +kernel
 have slot:=F.excAttr_ValueError.ga
 unfold getAttr? getAttrBy?
 refine wpAny_bind (wpAny_mkText (wpAny_bind (wpAny_attempt ?_)))
 unfold getAttrBy
 refine wpAny_holding (wpAny_bind (L0.at (wpAny_bind (L1.at ?_))))
 dsimp only
 rw[hx2,Bool.and_false,if_neg Bool.false_ne_true]
 unfold getAttrByItsOwn hookBefore
 refine wpAny_bind ?_
 show wpAny _ _ (if onTheHeap (Value.ref C)=true then typeLookup (.ref C) "__getattr__" else pure none) _ _ _
 rw[if_pos (show onTheHeap (Value.ref C)=true from rfl)]
 refine L2.at (wpAny_bind (wpAny_attempt (wpAny_holding ?_)))
 unfold callGetattribute
 rw[show (false&&onTheHeap (Value.builtin "BaseException.__getattribute__"))=false from rfl,if_neg Bool.false_ne_true]
 unfold boundAndCalled
 rw[slot.bind]
 refine wpAny_bind (wpAny_pure ?_)
 show wpAny _ _ (call (.builtin "BaseException.__getattribute__") [.ref x,.str "__class__" t]) _ _ _
 refine wpAny_call (codeAny_call_builtin slot.plain entry_bga ?_)
 refine @PySem.W.check_slot (model prog w) _ _ ⟨hp,g,d,t+1,os⟩ "BaseException.__getattribute__" "BaseException" "__getattribute__" (.ref x) [.str "__class__" t] [] _ (by decide +kernel) (by decide +kernel) (L0.andThen L4) (F.args_bexc_ga (.ref x) (.str "__class__" t)) ?_
 refine wpAny_bind (wpAny_pure (wpAny_bind (wpAny_pure (wpAny_bind (L0.at (wpAny_bind (L3.at ?_)))))))
 show wpAny _ _ (holding [.builtin "object.__class__"] (call (.builtin "getset_descriptor.__get__") [.builtin "object.__class__",.ref x,.ref C]) >>= ret) _ _ _
 refine wpAny_bind (wpAny_holding (wpAny_call (PySem.W.class_get (s:=⟨hp,g,d,t+1,os⟩) (ox:=ox) (od:=od) KX I hm (wpAny_pure ?_))))
 exact PySem.W.handed_on rfl (wpAny_pure h)
theorem kitx_exc (i:Xi K C):PySem.W.KitX K (.ref x) (.ref C) (fun h=>InstAt h x ox C od) where
 ty:=fun _ _ _ I=>I.type
 it:=fun _ _ KX _=>by
  obtain⟨cd,hc,_⟩:=PySem.W.any_some i.c.hd
  unfold PySem.W.clsIn at hc
  split at hc
  ·rename_i ho
   intro A' Q' E' s' k q
   unfold isType loadHead
   exact wpAny_bind (wpAny_loadPart (k _ _ (KX _ _ ho)) (wpAny_pure q))
  ·cases hc
 ne:=fun h tp dd its n sl KX htp=>by
  obtain⟨cd,hc,_⟩:=PySem.W.any_some i.c.hd
  refine Bool.eq_false_iff.mpr fun q=>?_
  have e:C=tp:=Value.ref.inj (beq_iff_eq.mp q)
  subst e
  unfold PySem.W.clsIn at hc
  split at hc
  ·rename_i ho
   have z:=(KX _ _ ho).symm.trans htp
   cases z
  ·cases hc
 ca:=fun KX I k=>xclass i KX I k
end
inductive TyX (K:Frag) (H:Hp):V→Value→Prop where
 | pl {x:V} {t:Value} (h:TyOf K H x t):TyX K H x t
 | seqL {a:Addr} {xs:List V} (h:SqL K H a xs):TyX K H (.ref a) (.type "list")
 | seqT {a:Addr} {xs:List V} (h:SqT K H a xs):TyX K H (.ref a) (.type "tuple")
 | exc {e C:Addr} {fs:List (Str×V)} (x:XAt H e C fs) (i:Xi K C):TyX K H (.ref e) (.ref C)
def clsV:V→Option Value
 | .ref a=>some (.ref a)
 | .ty n=>some (.type n)
 | _=>none
theorem call_isinst {X:Cx}:CallR X (.builtin "isinstance") (fun xs H Q=>∃x c t k b,xs=[x,c]∧clsV c=some k∧TyX X.K H x t∧PySem.W.kitOne X.K t k=some b∧Q (.bl b) H):=by
 rintro pins s σ H xs us Q I r ⟨x,c,t,k,b,rfl,hk,ty,e,q⟩
 obtain⟨u,v,rfl,ru,rv⟩:=r.two
 have hv:v=k:=by
  cases c with
  | ref a=>cases hk;exact rv
  | ty n=>cases hk;exact rv
  | _=>cases hk
 subst hv
 cases ty with
 | pl ty=>exact isinst_ok I ru ty e fun tk=>⟨.bl b,H,I.tok _,rfl,q⟩
 | seqL h=>
  cases ru
  obtain⟨its,_,⟨o,n,ho,hc,_⟩,_⟩:=I.list h
  exact PySem.W.kia_one PySem.W.kitx_list I.kIn ⟨o,ho,hc⟩ e (fun z=>nomatch z) fun tk=>⟨.bl b,H,I.tok _,rfl,q⟩
 | seqT h=>
  cases ru
  obtain⟨its,_,⟨o,ho,hc,_⟩,_⟩:=I.tuple h
  exact PySem.W.kia_one PySem.W.kitx_tuple I.kIn ⟨o,ho,hc⟩ e (fun z=>nomatch z) fun tk=>⟨.bl b,H,I.tok _,rfl,q⟩
 | exc x i=>
  cases ru
  obtain⟨ox,od,J,_⟩:=x.inst I
  exact PySem.W.kia_one (kitx_exc i) I.kIn J e (fun z=>nomatch z) fun tk=>⟨.bl b,H,I.tok _,rfl,q⟩
def tXFld (K:Frag)(ta:TE)(f:Str):TE:=fun σ H Q=>ta σ H fun x H1=>∃e C fs v,x=.ref e∧XAt H1 e C fs∧Xc K C∧NoAttr K C f∧fs.lookup f=some v∧Q v H1
def sXFld (K:Frag)(ta tv:TE)(f:Str):TS:=fun D σ H=>tv σ H fun y H1=>ta σ H1 fun x H2=>∃e C fs,x=.ref e∧XAt H2 e C fs∧Xc K C∧NoAttr K C f∧fs.length<1000 ∧
 ∀H',XAt H' e C (putF f y fs)→(∀b o,H2 b=some o→b≠e→(∀d,H2 e=some (xo e C (some d))→b≠d)→H' b=some o)→(∃d,H' e=some (xo e C (some d))∧(H2 e=some (xo e C (some d))∨H2 d=none))→D.nx σ H'
def tXMake0 (K:Frag)(C:Addr)(t:TA):TE:=fun σ H Q=>t σ H fun vs H1=>vs.length≤1000∧∀e,H1 e=none→Q (.ref e) (upd H1 e (xo e C none))
def tXMake (C:Addr)(sp:Sp)(E:XK)(t:TA):TE:=fun σ H Q=>t σ H fun vs H1=>vs.length≤1000∧∀e,H1 e=none→sp (.ref e::vs) (upd H1 e (xo e C none)) (fun v H2=>v=.non∧Q (.ref e) H2) E
section
variable {X:Cx}{o e value:Expr}{es:List Expr}{f x:Str}{p pos pos':Pos}{ta tv:TE}{t:TA}{C fI:Addr}
theorem ps_xfld (ha:PE X o ta)(hv:PE X value tv)(hs:swapsWith value (some (.Attribute o f pos')) pos.line X.env=pure false):PS X (.Assign [.Attribute o f pos'] value pos) (sXFld X.K ta tv f):=by
 intro pins s σ H D I h
 refine plainObj_wpAny_Assign_Attribute (thn (hv pins s σ H _ I h) fun u s1 ⟨y,H1,I1,ry,q⟩=>thn (ha pins s1 σ H1 _ I1 q) fun ov s2 ⟨x,H2,I2,rx,a,C,fs,ex,xa,c,n,l,q2⟩=>?_) hs
 subst ex
 obtain rfl:ov=Value.ref a:=rx
 exact xset I2 xa c n l ry fun s3 H3 I3 x3 k3 d3=>⟨σ,H3,I3,q2 H3 x3 k3 d3⟩
theorem Xm.parts {K:Frag}{C:Addr}(m:Xm K C):∃(nm q:Str) (N:Addr) (bs bm:List Value) (hdct:Bool) (sn:List Str) (sub:List Value) (ab:Bool) (col:Option Bool) (dd:Option Addr) (k0 k1 k2 k3 k5:Option Value),
  K.lookup C=some (excClassObj nm q C N bs bm hdct sn sub ab col dd k0 k1 k2 k3 k5 "ValueError.__new__")∧xmro (.ref C::bm)=true:=by
 obtain⟨nm,qn,N,bs,bm,hdct,sn,sub,ab,col,dd,k0,k1,k2,k3,k5,lC⟩:=m.ob
 refine⟨nm,qn,N,bs,bm,hdct,sn,sub,ab,col,dd,k0,k1,k2,k3,k5,lC,?_⟩
 have hm:=m.c.mr
 unfold PySem.W.clsIn at hm
 rw[lC]at hm
 exact hm
theorem run_xmake0 {pins:List (Addr×Obj)} {σ:St} {H:Hp} {s:Shared} {Q:VK} {us:List Value} (m:Xm X.K C) (hi:findIn X.K (.ref C) "__init__"=some (some (.builtin "ValueError.__init__"))) (I:Inv X pins σ H s) (hz:us.length≤1000)
  (h:∀e,H e=none→Q (.ref e) (upd H e (xo e C none))):wpAny (model X.prog X.w) X.A (call (.ref C) us) (EP X pins σ Q) X.xe s:=by
 obtain⟨nm,qn,N,bs,bm,hdct,sn,sub,ab,col,dd,k0,k1,k2,k3,k5,lC,hx⟩:=m.parts
 have I2:=Inv.xmade (C:=C) (us:=us) I
 have hq:=h (s.heap.objs.size+1) (I.hok.fresh (Nat.le_succ _))
 have hz':us.length≤sizeLine:=Nat.le_trans hz (by rw[sizeLine_eq];decide)
 have KX:=I.kIn
 have hC:=KX _ _ lC
 obtain⟨hp,g,d,t,os⟩:=s
 refine wpAny_call (xcall (K:=X.K) KX hx hC (PySem.W.looks_findIn KX hi) (fun self=>Looks.of_pure (F.excBase_ValueError.init.bind self)) hz' ?_)
 refine xinit_run I2 m upd_same hz' _ fun s' I3=>⟨rfl,?_⟩
 exact⟨.ref _,_,I3,rfl,hq⟩
theorem run_xmake {CX:CXT} {k:Nat} {fd:FuncData} {ps:List Str} {sp:Sp} {E:XK} {pins:List (Addr×Obj)} {σ:St} {H:Hp} {s:Shared} {Q:VK} {us:List Value} {vs:List V} (m:Xm X.K C) (hi:findIn X.K (.ref C) "__init__"=some (some (.ref fI))) (hfn:PySem.W.isFn X.K (.ref fI)=true)
  (F:FnOk X.prog X.w X.K X.mg X.base CX k fI fd ps sp) (hr:Room (k+1) X.A) (hb:Binds X.K fd ps []) (hxp:Passes CX X E) (I:Inv X pins σ H s) (r:Vals vs us) (hz:vs.length≤1000)
  (h:∀e,H e=none→sp (.ref e::vs) (upd H e (xo e C none)) (fun v H2=>v=.non∧Q (.ref e) H2) E):wpAny (model X.prog X.w) X.A (call (.ref C) us) (EP X pins σ Q) X.xe s:=by
 obtain⟨nm,qn,N,bs,bm,hdct,sn,sub,ab,col,dd,k0,k1,k2,k3,k5,lC,hx⟩:=m.parts
 have I2:=Inv.xmade (C:=C) (us:=us) I
 have hq:=h (s.heap.objs.size+1) (I.hok.fresh (Nat.le_succ _))
 have hz':us.length≤sizeLine:=by rw[←r.length];exact Nat.le_trans hz (by rw[sizeLine_eq];decide)
 have KX:=I.kIn
 have hC:=KX _ _ lC
 have r2:Vals (V.ref (s.heap.objs.size+1)::vs) (Value.ref (s.heap.objs.size+1)::us):=.cons rfl r
 have hl:((Value.ref (s.heap.objs.size+1)::us)++[]).length=ps.length:=by
  have e:=r2.length
  rw[F.len _ _ _ _ hq]at e
  rw[List.append_nil]
  exact e.symm
 have hb2:=hb { s with heap:=(s.heap.push (tupO us)).push (xraw C s.heap.objs.size) } (Value.ref (s.heap.objs.size+1)::us) I2.kIn hl
 rw[List.append_nil]at hb2
 obtain⟨hp,g,d,t,os⟩:=s
 refine wpAny_call (xcall (K:=X.K) KX hx hC (PySem.W.looks_findIn KX hi) (fun self=>PySem.W.bind_fn KX self (beq_iff_eq.mp hfn)) hz' ?_)
 refine codeAny_mono (F.run _ X.stack _ _ ⟨Value.ref (hp.objs.size+1)::us,[]⟩ (Value.ref (hp.objs.size+1)::us) _ _ E (hr.make C us []) (I2.env0.make C us []) hb2 r2 hq) fun r s' hq'=>?_
 cases r with
 | error e=>exact hxp pins σ _ _ e s' I2 hq'
 | ok fl=>
  cases fl with
  | ret u=>
   obtain⟨v,H',I3,rv,ev,q3⟩:=I2.after hq'
   subst ev
   exact⟨rv,⟨V.ref (hp.objs.size+1),H',I3,rfl,q3⟩⟩
  | next=>exact False.elim hq'
  | brk=>exact False.elim hq'
  | cont=>exact False.elim hq'
theorem pe_xmake0 (m:Xm X.K C) (hi:findIn X.K (.ref C) "__init__"=some (some (.builtin "ValueError.__init__"))) (hg:Gl X x) (hm:X.mg x=some (.ref C)) (ha:PA X (e::es) t)
  (hdb:(x == ("__debug__":Str))=false:=by decide) (he:starEach (e::es) X.env=(false,eval e X.env)::starEach es X.env:=by rfl) (hpl:(backTo pos (starEach es X.env)).any (·.1)=false:=by rfl):
  PE X (.Call (.Name x p) (e::es) [] pos) (tXMake0 X.K C t):=by
 intro pins s σ H Q I h
 refine wpAny_Call_Name_kw (ld_glob I hg hm ?_ hdb)
 refine PySem.W.callWith_K (h₀:=X.base) I.ok.mod.kin m.kp (thn (ha pos pins s σ H _ I h) fun us s1 ⟨vs,H1,I1,r,hz,q⟩=>⟨I1.kIn,?_⟩) he hpl
 exact run_xmake0 m hi I1 (by rw[List.nil_append,←r.length];exact hz) q
theorem pe_xmake {CX:CXT} {k:Nat} {fd:FuncData} {ps:List Str} {sp:Sp} {E:XK} (m:Xm X.K C) (hi:findIn X.K (.ref C) "__init__"=some (some (.ref fI))) (hfn:PySem.W.isFn X.K (.ref fI)=true)
  (F:FnOk X.prog X.w X.K X.mg X.base CX k fI fd ps sp) (hr:Room (k+1) X.A) (hb:Binds X.K fd ps []) (hxp:Passes CX X E) (hg:Gl X x) (hm:X.mg x=some (.ref C)) (ha:PA X (e::es) t)
  (hdb:(x == ("__debug__":Str))=false:=by decide) (he:starEach (e::es) X.env=(false,eval e X.env)::starEach es X.env:=by rfl) (hpl:(backTo pos (starEach es X.env)).any (·.1)=false:=by rfl):
  PE X (.Call (.Name x p) (e::es) [] pos) (tXMake C sp E t):=by
 intro pins s σ H Q I h
 refine wpAny_Call_Name_kw (ld_glob I hg hm ?_ hdb)
 refine PySem.W.callWith_K (h₀:=X.base) I.ok.mod.kin m.kp (thn (ha pos pins s σ H _ I h) fun us s1 ⟨vs,H1,I1,r,hz,q⟩=>⟨I1.kIn,?_⟩) he hpl
 exact run_xmake m hi hfn F hr hb hxp I1 r hz q
structure ClsRead (K:Frag)(C:Addr)(f:Str)(v:Value):Prop where
 sp:specialIn K (.ref C) "__getattribute__"=some (some (.builtin "type.__getattribute__"))
 rd:PySem.W.readsIn K C (.type "type")=true
 fd:PySem.W.findCls K (.ref C) (.type "type") f=some (.val v)
 hn:PySem.W.handedIn v=true
def tXInit (K:Frag)(t:TA):TE:=fun σ H Q=>t σ H fun vs H1=>∃e C d rest,vs=.ref e::rest∧H1 e=some (xo e C d)∧Xm K C∧rest.length≤1000∧Q .non H1
theorem pe_xinit {L:Addr} {pl:Sem Bool} {apos:Pos} {np:Pos} (hg:Gl X x) (hm:X.mg x=some (.ref L)) (cr:ClsRead X.K L "__init__" (.builtin "ValueError.__init__")) (ha:PA X (e::es) t)
  (hdb:(x == ("__debug__":Str))=false:=by decide) (hst:starEach (e::es) X.env=(false,eval e X.env)::starEach es X.env:=by rfl) (hpl:(backTo pos (starEach es X.env)).any (·.1)=false:=by rfl)
  (ht:eval (.Call (.Attribute (.Name x np) "__init__" apos) (e::es) [] pos) X.env=(do
   let ov ←eval (.Name x np) X.env
   standAt apos.atName
   let (f,first) ←holding [ov] (getMethod ov "__init__" pl)
   callWith pos f first (backTo pos (starEach (e::es) X.env)) (backToKw pos (keywordEach [] X.env))):=by rfl):
  PE X (.Call (.Attribute (.Name x np) "__init__" apos) (e::es) [] pos) (tXInit X.K t):=by
 intro pins s σ H Q I h
 refine PySem.W.methodCall_KW (pl:=pl) (ld_glob I hg hm ?_ hdb) ht
 refine PySem.W.method_cls I.kIn cr.sp (PySem.W.cls_value I.kIn cr.rd cr.fd cr.hn ?_)
 refine PyProof.Rows.callWith_builtin1 (thn (ha pos pins _ σ H _ (I.tok _) h) fun us s1 ⟨vs,H1,I1,r1,ev,C,d,rest,evs,hx,m,hz,q⟩=>?_) hst hpl
 subst evs
 cases r1 with
 | cons ru rr=>
  cases ru
  refine wpAny_call (xinit_run I1 m hx (by rw[←rr.length];exact Nat.le_trans hz (by rw[sizeLine_eq];decide)) _ fun s' I3=>?_)
  exact⟨.non,H1,I3,rfl,q⟩
end
end L2
namespace L2
open PySem PySem.Spec PyProof.Rows
section
variable {X:Cx}{pins:List (Addr×Obj)}{σ:St}{H:Hp}{s:Shared}
end
def Ite (K:PySem.W.Frag)(a:Addr):It:=
 ⟨fun i H=>∃xs x,SqL K H a xs∧xs[i]?=some x,fun i H x H'=>∃p v,H p=none∧x=.ref p∧H'=upd H p (.tup [.int i,v])∧∀xs,SqL K H a xs→xs[i]?=some v,fun i H=>∃xs,SqL K H a xs∧xs.length≤i⟩
section
variable {X:Cx}{es:List Expr}{x1:Nat}{tp:Pos}
def iEnum (K:PySem.W.Frag)(ta:TA):TI:=fun σ H R=>ta σ H fun vs H1=>∃a,vs=[.ref a]∧(∃xs,SqL K H1 a xs)∧R (Ite K a) H1
end
section
variable {H:Hp}{Q:VK}{σ:St}
theorem q_I {C:Int→Int→Prop}{g:Int→Int→V}{i j:Int}:rI C g (.int i) (.int j) H Q=(C i j∧Q (g i j) H):=
 propext ⟨fun ⟨_,_,e1,e2,h⟩=>by cases e1;cases e2;exact h,fun h=>⟨i,j,rfl,rfl,h⟩⟩
theorem q_I0 {g:Int→Int→V}{i j:Int}:rI0 g (.int i) (.int j) H Q=Q (g i j) H:=
 propext ⟨fun ⟨_,_,e1,e2,h⟩=>by cases e1;cases e2;exact h,fun h=>⟨i,j,rfl,rfl,h⟩⟩
theorem q_U {g:Int→V}{i:Int}:rU g (.int i) H Q=Q (g i) H:=
 propext ⟨fun ⟨_,e1,h⟩=>by cases e1;exact h,fun h=>⟨i,rfl,h⟩⟩
theorem q_T {C:List Nat→List Nat→Prop}{g:List Nat→List Nat→V}{a b:List Nat}:rT C g (tx a) (tx b) H Q=(C a b∧Q (g a b) H):=
 propext ⟨fun ⟨_,_,e1,e2,h⟩=>by rw[tx_inj.mp e1,tx_inj.mp e2];exact h,fun h=>⟨a,b,rfl,rfl,h⟩⟩
theorem q_b {b:Bool}{p:Bool→Prop}:(∃k,V.bl b=V.bl k∧p k)=p b:=
 propext ⟨fun ⟨_,e,h⟩=>by cases e;exact h,fun h=>⟨b,rfl,h⟩⟩
theorem q_var {v:V}{p:V→Prop}:(∃u,some (some v)=some (some u)∧p u)=p v:=
 propext ⟨fun ⟨_,e,h⟩=>by cases e;exact h,fun h=>⟨v,rfl,h⟩⟩
theorem q_var' {v:V}{p:V→Prop}:(∃u,v=u∧p u)=p v:=
 propext ⟨fun ⟨_,e,h⟩=>by cases e;exact h,fun h=>⟨v,rfl,h⟩⟩
end
end L2
namespace L2
open PySem PySem.Spec PyProof.Rows
open PySem.W (Frag findIn specialIn typeIn mroIn clsIn subIn kitOne kitCls)
def cmpOk (sc sco:Scope):Bool:=decide (sc.kind=.function)&&sc.names.all fun y=>decide (y.2≠NameKind.cell)&&(decide (y.2≠NameKind.local) || decide (sc.names.lookup y.1=some NameKind.local)) &&
 (decide (y.2≠NameKind.free) || (decide (sco.names.lookup y.1=some NameKind.cell) || decide (sco.names.lookup y.1=some NameKind.free)))
theorem cmpOk_ok {X:Cx}{sc:Scope}(h:cmpOk sc X.env.scope=true):CmpScope X sc:=by
 unfold cmpOk at h
 rw[Bool.and_eq_true,List.all_eq_true]at h
 obtain⟨h1,h2⟩:=h
 refine⟨of_decide_eq_true h1,fun y hy=>?_,fun y hy e=>?_,fun y hy e=>?_⟩
 ·have:=h2 y hy
  simp only[Bool.and_eq_true,Bool.or_eq_true,decide_eq_true_eq]at this
  exact this.1.1
 ·have:=h2 y hy
  simp only[Bool.and_eq_true,Bool.or_eq_true,decide_eq_true_eq]at this
  rcases this.1.2 with z | z
  ·exact absurd e z
  ·exact z
 ·have:=h2 y hy
  simp only[Bool.and_eq_true,Bool.or_eq_true,decide_eq_true_eq]at this
  rcases this.2 with z | z | z
  ·exact absurd e z
  ·exact .inl z
  ·exact .inr z
section
variable {K:Frag}{H:Hp}{C D:Addr}
structure ClsOk (K:Frag)(C:Addr)(mro:List Value):Prop where
 cd:∃cd,clsIn K C=some cd∧cd.mro=mro
 ty:typeIn K (.ref C)=some (.type "type")
 ne:mro.isEmpty=false
theorem kit_ref {m1 m2:List Value}{b:Bool}(c:ClsOk K C m1)(d:ClsOk K D m2)(h:m1.contains (.ref D)=b)(hh:C=D→b=true):kitOne K (.ref C) (.ref D)=some b:=by
 obtain⟨cd,e1,e2⟩:=c.cd
 obtain⟨cd',e3,e4⟩:=d.cd
 unfold PySem.W.kitOne
 split
 ·rename_i z
  have z':Value.ref C=Value.ref D:=by simpa using z
  cases z'
  rw[hh rfl]
 ·unfold PySem.W.kitCls
  dsimp only
  rw[e3,d.ty]
  simp only[Option.isSome_some,Bool.true_and,beq_self_eq_true,if_true]
  unfold PySem.W.subIn PySem.W.mroIn
  dsimp only
  rw[e1,Option.bind_some,e2,c.ne,h]
  rfl
def spInit (K:Frag)(C:Addr)(n:Nat)(fs:List V→List (Str×V)):Sp:=fun vs H Q _=>∃e r,vs=.ref e::r∧r.length=n∧H e=some (xo e C none) ∧
 ∀H',XAt H' e C (fs r)→(∀b o,H b=some o→b≠e→H' b=some o)→Q .non H'
theorem same_upd {a:Addr}{o:HO}(h:H a=none):Same H (upd H a o):=fun b u hb=>by rw[upd_ne (ne_of_none hb h)];exact hb
end
def Mk0 (C:Addr)(H:Hp)(Q:VK):Prop:=∀e,H e=none→Q (.ref e) (upd H e (xo e C none))
def MkI (sp:Sp)(E:XK)(C:Addr)(vs:List V)(H:Hp)(Q:VK):Prop:=∀e,H e=none→sp (.ref e::vs) (upd H e (xo e C none)) (fun v H2=>v=.non∧Q (.ref e) H2) E
def NewL (xs:List V)(H:Hp)(Q:VK):Prop:=∀p,H p=none→Q (.ref p) (upd H p (.lst xs))
def NewT (xs:List V)(H:Hp)(Q:VK):Prop:=∀p,H p=none→Q (.ref p) (upd H p (.tup xs))
section
variable {K:Frag}{C:Addr}{sp:Sp}{E:XK}{t:TA}{σ:St}{H:Hp}{Q:VK}{vs:List V}
theorem q_mk0:tXMake0 K C t σ H Q=t σ H (fun vs H1=>vs.length≤1000∧Mk0 C H1 Q):=rfl
theorem q_mkI:tXMake C sp E t σ H Q=t σ H (fun vs H1=>vs.length≤1000∧MkI sp E C vs H1 Q):=rfl
theorem q_lst:tLst t σ H Q=t σ H (fun xs H1=>xs.length≤sizeLine∧NewL xs H1 Q):=rfl
theorem q_tup:tTup t σ H Q=t σ H (fun xs H1=>xs.length≤sizeLine∧NewT xs H1 Q):=rfl
theorem q_cat {l b:Addr}:rCat (.ref l) (.ref b) H Q=∃xs zs,H l=some (.lst xs)∧H b=some (.lst zs)∧xs.length+zs.length≤sizeLine∧NewL (xs++zs) H Q:=
 propext ⟨fun ⟨_,_,xs,zs,e1,e2,h⟩=>by cases e1;cases e2;exact⟨xs,zs,h⟩,fun ⟨xs,zs,h⟩=>⟨l,b,xs,zs,rfl,rfl,h⟩⟩
theorem MkI.of {n:Nat}{fs:List V→List (Str×V)}(hn:vs.length=n)(h:∀e H',Same H H'→H e=none→XAt H' e C (fs vs)→Q (.ref e) H'):MkI (spInit K C n fs) E C vs H Q:=
 fun e he=>⟨e,vs,rfl,hn,upd_same,fun H' x k=>⟨rfl,h e H' (fun b o hb=>k b o (by rw[upd_ne (ne_of_none hb he)];exact hb) (ne_of_none hb he)) he x⟩⟩
theorem NewL.of (h:∀p H',Same H H'→H p=none→H' p=some (.lst vs)→Q (.ref p) H'):NewL vs H Q:=fun p hp=>h p _ (same_upd hp) hp upd_same
theorem NewT.of (h:∀p H',Same H H'→H p=none→H' p=some (.tup vs)→Q (.ref p) H'):NewT vs H Q:=fun p hp=>h p _ (same_upd hp) hp upd_same
theorem bt_str:bootBuiltins "str"=some (.type "str"):=by decide +kernel
theorem bt_int:bootBuiltins "int"=some (.type "int"):=by decide +kernel
theorem bt_bool:bootBuiltins "bool"=some (.type "bool"):=by decide +kernel
theorem bt_list:bootBuiltins "list"=some (.type "list"):=by decide +kernel
theorem bt_tuple:bootBuiltins "tuple"=some (.type "tuple"):=by decide +kernel
theorem bt_set:bootBuiltins "set"=some (.type "set"):=by decide +kernel
theorem bt_len:bootBuiltins "len"=some (.builtin "len"):=by decide +kernel
theorem bt_isinstance:bootBuiltins "isinstance"=some (.builtin "isinstance"):=by decide +kernel
theorem bt_all:bootBuiltins "all"=some (.builtin "all"):=by decide +kernel
theorem bt_max:bootBuiltins "max"=some (.builtin "max"):=by decide +kernel
theorem bt_min:bootBuiltins "min"=some (.builtin "min"):=by decide +kernel
theorem bt_sorted:bootBuiltins "sorted"=some (.builtin "sorted"):=by decide +kernel
theorem bt_sum:bootBuiltins "sum"=some (.builtin "sum"):=by decide +kernel
end
def Own (K:Frag)(H:Hp)(d:DT)(x:V):Prop:=DatOk K H d x∧deq d d=true∧dep d≤60
theorem scal_self {x:V}(h:flatV x=true):scal x x=true:=by cases x<;>first | rfl | cases h
theorem eq_self {K:Frag}{H:Hp}{Q:VK}{d:DT}{x:V}(o:Own K H d x)(q:Q (.bl true) H):rEqD K false x x H Q:=by
 obtain⟨h1,h2,h3⟩:=o
 by_cases hf:flatV x=true
 ·exact .inl ⟨scal_self hf,by rw[decide_eq_true rfl];exact q⟩
 ·exact .inr ⟨d,d,h1,h1,fun z=>hf z.1,h3,by rw[h2];exact q⟩
theorem Own.same {K:Frag}{H H':Hp}{d:DT}{x:V}(o:Own K H d x)(s:Same H H'):Own K H' d x:=⟨s.dat o.1,o.2⟩
theorem SqL.mk {K:Frag}{H:Hp}{a:Addr}{xs:List V}(h:H a=some (.lst xs)):SqL K H a xs:=.inl (.inl h)
theorem SqT.mk {K:Frag}{H:Hp}{a:Addr}{xs:List V}(h:H a=some (.tup xs)):SqT K H a xs:=.inl (.inl h)
theorem cat_of {l b:Addr}{xs zs:List V}{H:Hp}{Q:VK}(h1:H l=some (.lst xs))(h2:H b=some (.lst zs))(hz:xs.length+zs.length≤sizeLine)
  (h:∀p H',Same H H'→H p=none→H' p=some (.lst (xs++zs))→Q (.ref p) H'):rCat (.ref l) (.ref b) H Q:=⟨l,b,xs,zs,rfl,rfl,h1,h2,hz,fun p hp=>h p _ (same_upd hp) hp upd_same⟩
theorem xo_ne {e C d:Addr}:¬(some (xo e C none)=some (xo e C (some d))):=by
 intro z
 have z1:xo e C none=xo e C (some d):=Option.some.inj z
 unfold xo at z1
 have z2:=HO.ext.inj z1
 have hget:(⟨Array.replicate (e+1) (xraw C 0),{}⟩:Heap).get? e=some (xraw C 0):=by
  unfold Heap.get?
  have:(Array.replicate (e+1) (xraw C 0))[e]?=some (xraw C 0):=by simp
  dsimp only
  rw[this]
 have q:=congrFun z2 ⟨Array.replicate (e+1) (xraw C 0),{}⟩
 have l:∃(o:Obj) (t:Addr),(⟨Array.replicate (e+1) (xraw C 0),{}⟩:Heap).get? e=some o∧o.cls=.ref C∧o.dict=none∧o.data=.fields #[.ref t,.none,.none,.none,.bool false,.none]:=⟨_,0,hget,rfl,rfl,rfl⟩
 have r:=q.mp l
 obtain⟨o,t,h1,_,h3,_⟩:=r
 rw[hget]at h1
 cases h1
 cases h3
section
variable {X:Cx}{K:Frag}
theorem op_eqDK (hK:X.K=K)(hu:X.A.units+64<cLine):OpR X (compareOp .Eq) (rEqD K false):=by subst hK;exact op_eqD hu
theorem op_neDK (hK:X.K=K)(hu:X.A.units+64<cLine):OpR X (compareOp .NotEq) (rEqD K true):=by subst hK;exact op_neD hu
theorem ix_listK (hK:X.K=K):IxR X (rIxL K):=by subst hK;exact ix_list
theorem ix_tupK (hK:X.K=K):IxR X (rIxT K):=by subst hK;exact ix_tup
theorem call_lenK (hK:X.K=K):CallR X (.builtin "len") (fun xs H Q=>∃x n,xs=[x]∧LenV K x H n∧Q (.int n) H):=by subst hK;exact call_len
theorem call_tuple_ofK (hK:X.K=K):CallR X (.type "tuple") (fun xs H Q=>∃p ys,xs=[.ref p]∧((SqL K H p ys∧∀l,H l=none→Q (.ref l) (upd H l (.tup ys)))∨(SqT K H p ys∧Q (.ref p) H))):=by subst hK;exact call_tuple_of
theorem pe_fldK {e:Expr}{f:Str}{pos:Pos}{ta:TE}(hK:X.K=K)(he:PE X e ta)(hb:attributeBase e f X.env (eval e X.env)=eval e X.env):PE X (.Attribute e f pos) (tFld K ta f):=by subst hK;exact pe_fld he hb
theorem pi_tupK {tg l:Expr}{tl:TE}(hK:X.K=K)(hl:PE X l tl):PI X tg l (iTup K tl):=by subst hK;exact pi_tup hl
end
theorem cxK {CX:CXT}{P:Program}{w:World}{K:PySem.W.Frag}{mg:Str→Option Value}{base:Heap}{N:List Str}{qual:Str}{scope:Scope}{f:Addr}{cd:Value}{A:Around}{outer:List Env}{s:Shared}{H:Hp}{E:XK}:
  (cxOf CX P w K mg base N qual scope f cd A outer s H E).K=K:=rfl
theorem bxK {X:Cx}{sc:Scope}{N:List Str}{fp:List Addr}{s₀:Shared}{H:Hp}{pn:List (Addr×Obj)}:(bx X sc N fp s₀ H pn).K=X.K:=rfl
end L2
namespace L2
open PySem PySem.Spec PyProof.Rows
open PySem.W (Frag)
def ForRun (J:It)(g:TG)(tb:TS)(D:Ends)(σ:St)(H:Hp):Prop:=∃W:Nat→Nat→St→Hp→Prop,(∃m,W 0 m σ H)∧∀i m σ H,W i m σ H →
 (J.stop i H∧D.nx σ H)∨(J.go i H∧∃N:St→Hp→Prop,(∀σ' H',N σ' H'→∃m',m'<m∧W (i+1) m' σ' H')∧∀x H',J.yld i H x H'→g x σ H' fun σ2 H2=>tb { D with nx:=N,ct:=N,bk:=D.nx } σ2 H2)
theorem q_for {wi:TI}{g:TG}{tb:TS}{D:Ends}{σ:St}{H:Hp}:tFor wi g tb D σ H=wi σ H fun J H1=>ForRun J g tb D σ H1:=rfl
def CompRun (J:It)(τ0:St)(g:TG)(tt:TT)(te:TE)(H1:Hp)(Q:VK):Prop:=∀acc,H1 acc=none→∃W:Nat→Nat→St→Hp→Prop,(∃m,W 0 m τ0 (upd H1 acc (.lst []))) ∧
 ∀i m τ H2,W i m τ H2→(J.stop i H2∧Q (.ref acc) H2)∨(J.go i H2∧∃Nx:St→Hp→Prop,(∀τ' H',Nx τ' H'→∃m',m'<m∧W (i+1) m' τ' H') ∧
  ∀x H3,J.yld i H2 x H3→g x τ H3 fun τ2 H4=>tt τ2 H4 fun b H5=>if b=true then te τ2 H5 fun y H6=>∃ys,H6 acc=some (.lst ys)∧ys.length<sizeLine∧Nx τ2 (upd H6 acc (.lst (ys++[y]))) else Nx τ2 H5)
theorem q_comp {ix:List (Option Nat)}{wi:TI}{g:TG}{tt:TT}{te:TE}{σ:St}{H:Hp}{Q:VK}:tComp ix wi g tt te σ H Q=wi σ H fun J H1=>CompRun J (pick ix σ) g tt te H1 Q:=rfl
section
variable {g:TG}{tb:TS}{D:Ends}{σ:St}{H:Hp}{K:Frag}{a:Addr}{xs:List V}
theorem ForRun.range {lo:Int}{n:Nat}(Pv:Nat→St→Hp→Prop)(h0:Pv 0 σ H)
  (hs:∀i σ H,i<n→Pv i σ H→g (.int (lo+i)) σ H fun σ2 H2=>tb { D with nx:=Pv (i+1),ct:=Pv (i+1),bk:=D.nx } σ2 H2) (hd:∀σ H,Pv n σ H→D.nx σ H):
  ForRun (Itr lo n) g tb D σ H:=for_range Pv h0 hs hd
theorem ForRun.text {l:List Nat}(Pv:Nat→St→Hp→Prop)(h0:Pv 0 σ H)
  (hs:∀i c σ H,l[i]?=some c→Pv i σ H→g (tx [c]) σ H fun σ2 H2=>tb { D with nx:=Pv (i+1),ct:=Pv (i+1),bk:=D.nx } σ2 H2) (hd:∀σ H,Pv l.length σ H→D.nx σ H):
  ForRun (Its l) g tb D σ H:=for_text Pv h0 hs hd
end
section
variable {tt:TT}{te:TE}{Q:VK}{τ0:St}{H:Hp}
theorem CompRun.gen {J:It}{n:Nat}(v:Nat→V)(b:Nat→Bool)(f:Nat→V)(hz:n≤1000)(hgo:∀i H',i<n→Same H H'→J.go i H')(hst:∀H',Same H H'→J.stop n H')(hy:∀i H' x H3,i<n→Same H H'→J.yld i H' x H3→H3=H'∧x=v i)
  (ht:∀i H' Q',i<n→Same H H'→(∀H'',Same H' H''→Q' (b i) H'')→tt (τ0.set 0 (some (v i))) H' Q')
  (he:∀i H' Q',i<n→b i=true→Same H H'→(∀H'',Same H' H''→Q' (f i) H'')→te (τ0.set 0 (some (v i))) H' Q')
  (hQ:∀p H',Same H H'→H p=none→H' p=some (.lst (((List.range n).filter b).map f))→Q (.ref p) H'):CompRun J τ0 (gName 0) tt te H Q:=by
 intro acc ha
 refine⟨fun i m τ H2=>i≤n∧m=n-i∧(∀w:Option V,τ.set 0 w=τ0.set 0 w)∧Same H H2∧H2 acc=some (.lst (((List.range i).filter b).map f)),⟨n,Nat.zero_le _,rfl,fun _=>rfl,same_upd ha,upd_same⟩,?_⟩
 rintro i m τ H2 ⟨hi,rfl,hτ,hs,hacc⟩
 by_cases hlt:i<n
 ·refine .inr ⟨hgo i H2 hlt hs,fun τ' H'=>(∀w:Option V,τ'.set 0 w=τ0.set 0 w)∧Same H H'∧H' acc=some (.lst (((List.range (i+1)).filter b).map f)),fun τ' H' q=>⟨n-(i+1),by omega,hlt,rfl,q⟩,fun x H3 y=>?_⟩
  obtain⟨rfl,rfl⟩:=hy i H2 x H3 hlt hs y
  show tt (τ.set 0 (some (v i))) _ _
  rw[hτ]
  have hτ':∀w:Option V,(τ0.set 0 (some (v i))).set 0 w=τ0.set 0 w:=fun w=>by rw[List.set_set]
  refine ht i _ _ hlt hs fun H4 s4=>?_
  cases hb:b i with
  | false=>
   rw[if_neg Bool.false_ne_true]
   refine⟨hτ',hs.trans s4,?_⟩
   rw[s4 _ _ hacc,List.range_succ,List.filter_append]
   simp[hb]
  | true=>
   rw[if_pos rfl]
   refine he i _ _ hlt hb (hs.trans s4) fun H5 s5=>?_
   refine⟨_,s5 _ _ (s4 _ _ hacc),?_,hτ',?_,?_⟩
   ·rw[List.length_map]
    have:=List.length_filter_le b (List.range i)
    rw[List.length_range]at this
    exact small1000 (by omega)
   ·intro c o hc
    have:c≠acc:=ne_of_none hc ha
    rw[upd_ne this]
    exact s5 _ _ (s4 _ _ (hs _ _ hc))
   ·rw[upd_same,List.range_succ,List.filter_append]
    simp[hb]
 ·have e:i=n:=by omega
  subst e
  exact .inl ⟨hst H2 hs,hQ acc H2 hs ha hacc⟩
theorem CompRun.range {lo:Int}{n:Nat}(b:Nat→Bool)(f:Nat→V)(hz:n≤1000)
  (ht:∀(i:Nat) H' Q',i<n→Same H H'→(∀H'',Same H' H''→Q' (b i) H'')→tt (τ0.set 0 (some (.int (lo+i)))) H' Q')
  (he:∀(i:Nat) H' Q',i<n→b i=true→Same H H'→(∀H'',Same H' H''→Q' (f i) H'')→te (τ0.set 0 (some (.int (lo+i)))) H' Q')
  (hQ:∀p H',Same H H'→H p=none→H' p=some (.lst (((List.range n).filter b).map f))→Q (.ref p) H'):CompRun (Itr lo n) τ0 (gName 0) tt te H Q:=
 .gen (fun i=>.int (lo+i)) b f hz (fun i _ h _=>h) (fun _ _=>Nat.le_refl _) (fun i H' x H3 _ _ y=>y) ht he hQ
theorem filter_all {n:Nat}{f:Nat→V}:((List.range n).filter fun _=>true).map f=(List.range n).map f:=by rw[List.filter_eq_self.mpr (fun _ _=>rfl)]
theorem CompRun.text {l:List Nat}(b:Nat→Bool)(f:Nat→V)(hz:l.length≤1000)
  (ht:∀i H' Q' (h:i<l.length),Same H H'→(∀H'',Same H' H''→Q' (b i) H'')→tt (τ0.set 0 (some (tx [l.getD i 0]))) H' Q')
  (he:∀i H' Q' (h:i<l.length),b i=true→Same H H'→(∀H'',Same H' H''→Q' (f i) H'')→te (τ0.set 0 (some (tx [l.getD i 0]))) H' Q')
  (hQ:∀p H',Same H H'→H p=none→H' p=some (.lst (((List.range l.length).filter b).map f))→Q (.ref p) H'):CompRun (Its l) τ0 (gName 0) tt te H Q:=
 .gen (fun i=>tx [l.getD i 0]) b f hz (fun i _ h _=>h) (fun _ _=>Nat.le_refl _) (fun i H' x H3 _ _ y=>by
  obtain⟨e,c,hc,rfl⟩:=y
  refine⟨e,?_⟩
  rw[List.getD_eq_getElem?_getD,hc];rfl) ht he hQ
end
theorem deqs_self:∀ {vs:List V},vs.all flatV=true→deqs (vs.map DT.f) (vs.map DT.f)=true
 | [],_=>by unfold deqs;rfl
 | v::vs,h=>by
  rw[List.all_cons,Bool.and_eq_true]at h
  rw[List.map_cons]
  unfold deqs
  rw[deqs_self h.2]
  unfold deq
  rw[eqV_self h.1]
  rfl
theorem ownF {K:Frag}{H:Hp}{v:V}(h:flatV v=true):Own K H (.f v) v:=⟨datF h,by unfold deq;exact eqV_self h,by unfold dep;exact Nat.zero_le _⟩
theorem ownL {K:Frag}{H:Hp}{a:Addr}{vs:List V}(h:SqL K H a vs)(hf:vs.all flatV=true):Own K H (.l (vs.map DT.f)) (.ref a):=⟨datL h hf,by unfold deq;exact deqs_self hf,by unfold dep;rw[deps_flat];decide⟩
theorem ownT {K:Frag}{H:Hp}{a:Addr}{vs:List V}(h:SqT K H a vs)(hf:vs.all flatV=true):Own K H (.t (vs.map DT.f)) (.ref a):=⟨datT h hf,by unfold deq;exact deqs_self hf,by unfold dep;rw[deps_flat];decide⟩
end L2
namespace L2
open PySem PySem.Spec PyProof.Rows
theorem tb_or {t:SetTable}{n:Nat}:(t.orStandIn n).led=t.led∧((t.orStandIn n).plain=true→t.plain=true):=by
 unfold SetTable.orStandIn
 split
 ·exact⟨rfl,id⟩
 ·exact⟨rfl,fun h=>by cases h⟩
theorem tb_lay {t:SetTable}{es:Array (Int×Value)}{h:Int}{x:Value}:(layNew t es h x).2.1.led=t.led∧((layNew t es h x).2.1.plain=true→t.plain=true):=by
 unfold layNew
 split
 ·rename_i slot wd _
  exact tb_or (t:=(t.put slot).1)
 ·exact⟨rfl,fun h=>by cases h⟩
theorem tb_laid {mask finger moves:Nat}{led plain:Bool}{hs:Array Int}{t':SetTable}{order:Array Nat}(e:SetTable.laid mask finger moves led plain hs=some (t',order)):t'.led=led∧t'.plain=plain:=by
 unfold SetTable.laid at e
 cases hq:SetTable.layClean mask hs with
 | none=>rw[hq]at e;cases e
 | some ow=>
  rw[hq]at e
  have e':=Option.some.inj e
  obtain⟨z,_⟩:=Prod.mk.inj e'
  subst z
  exact⟨rfl,rfl⟩
theorem tb_relay {t:SetTable}{es:Array (Int×Value)}{n:Nat}:(relayAll t es n).2.1.led=t.led∧((relayAll t es n).2.1.plain=true→t.plain=true):=by
 unfold relayAll
 split
 ·rename_i t' order q
  obtain⟨h1,h2⟩:=tb_laid q
  dsimp only
  split
  ·exact⟨h1,fun h=>by rw[←h2];exact h⟩
  ·exact⟨rfl,fun h=>by cases h⟩
 ·exact⟨rfl,fun h=>by cases h⟩
def TxSet (P:Program)(w:World)(h:Heap)(a:Addr)(ls:List (List Nat))(led:Bool):Prop:=
 ∃(o:Obj) (es:Array (Int×Value)) (ep:Nat) (t:SetTable) (ms:List (List Nat)),h.get? a=some o∧o.ExactSet∧o.data=.set es ep t∧ElemsOf (mixKind P w) es.toList∧t.fits es.size=true ∧
  t.led=led∧(t.plain=true→es.size=0)∧ms.Perm ls∧Vals (ms.map tx) (es.toList.map (·.2))∧es.size<scanBound
theorem TxSet.keep {P:Program}{w:World}{h h':Heap}{a:Addr}{ls:List (List Nat)}{led:Bool}(x:TxSet P w h a ls led)(k:∀o,h.get? a=some o→h'.get? a=some o):TxSet P w h' a ls led:=by
 obtain⟨o,es,ep,t,ms,h1,r⟩:=x
 exact⟨o,es,ep,t,ms,k o h1,r⟩
theorem TxSet.typ {P:Program}{w:World}{s:Shared}{a:Addr}{ls:List (List Nat)}{led:Bool}(x:TxSet P w s.heap a ls led):s.TypeIs (.ref a) "set":=by
 obtain⟨o,es,ep,t,ms,h1,h2,_⟩:=x
 exact⟨o,h1,h2.1⟩
def addT (ls:List (List Nat))(l:List Nat):List (List Nat):=if l∈ls then ls else ls++[l]
theorem is_tx {l:List Nat}{v:V}{u:Value}(r:RelV v u)(hv:∃m,v=tx m):keyIs (Sum.inr (⟨l.toArray⟩:Str):Key) u=decide (v=tx l):=by
 obtain⟨m,rfl⟩:=hv
 obtain⟨t,rfl⟩:=r
 rw[dec_tx]
 simp only[keyIs,Value.isStrOf]
 by_cases h:m=l
 ·subst h;simp
 ·have:¬(⟨m.toArray⟩:Str)=⟨l.toArray⟩:=fun e=>h (tx_inj.mp (congrArg V.str e))
  rw[decide_eq_false h]
  simp[this]
theorem vals_mem {l:List Nat}:∀ {ms:List (List Nat)} {es:List (Int×Value)},Vals (ms.map tx) (es.map (·.2))→((∃e∈es,keyIs (Sum.inr (⟨l.toArray⟩:Str):Key) e.2=true)↔l∈ms)
 | [],[],_=>by simp
 | [],_::_,r=>by cases r
 | _::_,[],r=>by cases r
 | m::ms,e::es,r=>by
  cases r with
  | cons r1 r2=>
   have ih:=vals_mem (l:=l) r2
   have q:=is_tx (l:=l) r1 ⟨m,rfl⟩
   rw[dec_tx]at q
   constructor
   ·rintro⟨x,hx,hk⟩
    rcases List.mem_cons.mp hx with z | z
    ·subst z
     rw[q]at hk
     exact List.mem_cons.mpr (.inl (of_decide_eq_true hk).symm)
    ·exact List.mem_cons.mpr (.inr (ih.mp ⟨x,z,hk⟩))
   ·intro h
    rcases List.mem_cons.mp h with z | z
    ·exact⟨e,List.mem_cons_self,by rw[q];exact decide_eq_true z.symm⟩
    ·obtain⟨x,hx,hk⟩:=ih.mpr z
     exact⟨x,List.mem_cons_of_mem _ hx,hk⟩
theorem vals_perm {us us':List Value}(p:us'.Perm us):∀ {ms:List (List Nat)},Vals (ms.map tx) us→∃ms':List (List Nat),ms'.Perm ms∧Vals (ms'.map tx) us':=by
 induction p with
 | nil=>intro ms r;exact⟨ms,.refl _,r⟩
 | cons x _ ih=>
  intro ms r
  cases ms with
  | nil=>cases r
  | cons m ms=>
   cases r with
   | cons r1 r2=>
    obtain⟨ms',p',r'⟩:=ih r2
    exact⟨m::ms',p'.cons _,.cons r1 r'⟩
 | swap x y l=>
  intro ms r
  match ms,r with
  | m1::m2::ms,.cons r1 (.cons r2 r3)=>exact⟨m2::m1::ms,.swap _ _ _,.cons r2 (.cons r1 r3)⟩
 | trans _ _ ih1 ih2=>
  intro ms r
  obtain⟨m1,p1,r1⟩:=ih2 r
  obtain⟨m2,p2,r2⟩:=ih1 r1
  exact⟨m2,p2.trans p1,r2⟩
section
variable {prog:Program}{w:World}{A:Around}{E:Value→Shared→Prop}{s:Shared}
theorem set_tail {g:Bool→Sem Unit}(hg:∀(b:Bool) (s₁:Shared) (Q':Unit→Shared→Prop),Q' () s₁→wpAny (model prog w) A (g b) Q' E s₁){a:Addr}{o:Obj}{es:Array (Int×Value)}{ep:Nat}{t:SetTable}
  (ho:s.heap.get? a=some o) (hd:o.data=.set es ep t) {e1:Array (Int×Value)} {t2:SetTable} (hb:e1.size<scanBound) (hf:t2.fits e1.size=true) {wd:Bool} {R:Option Bool→Shared→Prop}
  (h:∀h' e2 t3 ep',Heap.SameBut a s.heap h'→h'.get? a=some { o with data:=.set e2 ep' t3 }→e2.toList.Perm e1.toList→t3.fits e2.size=true→t3.led=t2.led→(t3.plain=true→t2.plain=true)→R (some true) { s with heap:=h' }):
  wpAny (model prog w) A (do
   storeSet a e1 t2
   if (!wd&&t2.tooFull)=true then do
    g (relayAll t2 e1 (SetTable.grown e1.size)).2.2;storeSet a (relayAll t2 e1 (SetTable.grown e1.size)).1 (relayAll t2 e1 (SetTable.grown e1.size)).2.1;pure (some true)
   else pure (some true)) R E s:=by
 have put:∀ {h:Heap} {ob:Obj} {xs ys:Array (Int×Value)} {n:Nat} {t t':SetTable},h.get? a=some ob→ob.data=.set xs n t→(h.update a (Obj.putSet ys t')).get? a=some { ob with data:=.set ys (n+1) t' }:=fun {h ob xs ys n t t'} h1 h2=>by
  have q:=Heap.get?_update_self (Obj.putSet ys t') h1 (by rw[putSet_of ys t' h2];rfl)
  rwa [putSet_of ys t' h2]at q
 have hs1:=Heap.SameBut.update s.heap a (Obj.putSet e1 t2)
 have g1:=put (ys:=e1) (t':=t2) ho hd
 refine wpAny_bind (wpAny_storeSet_of ho hd ?_ (fits_of_scanBound hb))
 split
 ·have p:=relayAll_perm t2 e1 (SetTable.grown e1.size)
  have f:=relayAll_fits t2 e1 (SetTable.grown e1.size)
  have tm:=tb_relay (t:=t2) (es:=e1) (n:=SetTable.grown e1.size)
  have z:(relayAll t2 e1 (SetTable.grown e1.size)).1.size=e1.size:=by rw[←Array.length_toList,p.length_eq,Array.length_toList]
  refine wpAny_bind (hg _ _ _ (wpAny_bind (wpAny_storeSet_of g1 rfl (wpAny_pure ?_) (fits_of_scanBound (by rw[z];exact hb)))))
  exact h _ _ _ _ (hs1.trans (Heap.SameBut.update _ a _)) (put (ob:={ o with data:=.set e1 (ep+1) t2 }) g1 rfl) p f tm.1 tm.2
 ·exact wpAny_pure (h _ _ _ _ hs1 g1 (.refl _) hf rfl id)
theorem set_add {a:Addr}{ls:List (List Nat)}{led:Bool}{l:List Nat}{tk:Tok}{Q:Bool→Shared→Prop}(hS:TxSet prog w s.heap a ls led)(hn:ls.length+1<scanBound)
  (h:∀h' b,Heap.SameBut a s.heap h'→TxSet prog w h' a (addT ls l) led→Q b { s with heap:=h' }):
  wpAny (model prog w) A (setAddHashed a (.str ⟨l.toArray⟩ tk) (keyH w (Sum.inr ⟨l.toArray⟩))) Q E s:=by
 obtain⟨o,es,ep,t,ms,ho,hex,hd,hel,hf,hled,hpl,hp,hv,hb⟩:=hS
 have hkey:(mixKind prog w).is (Sum.inr (⟨l.toArray⟩:Str)) (.str ⟨l.toArray⟩ tk)=true:=by
  exact mixKind_str prog w _ _
 have hsc:(Value.str ⟨l.toArray⟩ tk).scannable=true:=rfl
 have hlen:es.size=ls.length:=by
  have q:=hv.length
  rw[List.length_map,List.length_map]at q
  rw[←Array.length_toList,←q,hp.length_eq]
 have mem:=vals_mem (l:=l) hv
 have hl:l∈ms↔l∈ls:=hp.mem_iff
 unfold setAddHashed setAddHashedIn
 refine wpAny_holding (wpAny_bind (wpAny_setState_of ho hd hf ?_))
 dsimp only
 rw[byScan_of hsc hb hel,if_pos rfl]
 unfold setAddByScan
 refine wpAny_bind (wpAny_bind (wpAny_rule (wpAny_bind (wpAny_setScan_of (knd:=mixKind prog w) (k:=Sum.inr (⟨l.toArray⟩:Str)) hkey ho hd hf hel ?_))))
 cases hr:List.findIdx? (fun e=>(mixKind prog w).is (Sum.inr (⟨l.toArray⟩:Str)) e.2) es.toList with
 | some j=>
  dsimp only
  obtain⟨hj,hpj,_⟩:=List.findIdx?_eq_some_iff_getElem.mp hr
  have hin:l∈ls:=hl.mp (mem.mp ⟨es.toList[j],List.getElem_mem hj,hpj⟩)
  refine wpAny_pure (wpAny_pure ?_)
  have q:=h s.heap false (Heap.SameBut.refl a s.heap) (by
   unfold addT
   rw[if_pos hin]
   exact⟨o,es,ep,t,ms,ho,hex,hd,hel,hf,hled,hpl,hp,hv,hb⟩)
  exact q
 | none=>
  dsimp only
  have hnin:l∉ls:=fun z=>by
   obtain⟨e,he,hk⟩:=mem.mpr (hl.mpr z)
   have q:=List.findIdx?_eq_none_iff.mp hr e he
   rw[show (mixKind prog w).is (Sum.inr (⟨l.toArray⟩:Str)) e.2=true from hk]at q
   cases q
  have lp:=layNew_perm t es (keyH w (Sum.inr ⟨l.toArray⟩)) (.str ⟨l.toArray⟩ tk)
  have lf:=layNew_fits t es (keyH w (Sum.inr ⟨l.toArray⟩)) (.str ⟨l.toArray⟩ tk)
  have lt:=tb_lay (t:=t) (es:=es) (h:=keyH w (Sum.inr ⟨l.toArray⟩)) (x:=.str ⟨l.toArray⟩ tk)
  show wpAny _ A (match layNew t es (keyH w (Sum.inr ⟨l.toArray⟩)) (.str ⟨l.toArray⟩ tk) with | (es,t,wasDummy,gave)=>_) _ _ _
  generalize hL:layNew t es (keyH w (Sum.inr ⟨l.toArray⟩)) (.str ⟨l.toArray⟩ tk)=L at lp lf lt ⊢
  obtain⟨e1,t1,wd,gave⟩:=L
  dsimp only at lp lf lt ⊢
  rw[Array.toList_push]at lp
  have sz1:e1.size=ls.length+1:=by rw[←Array.length_toList,lp.length_eq,List.length_append,Array.length_toList,hlen];rfl
  have gw:∀(b:Bool) (s₁:Shared) (Q':Unit→Shared→Prop),Q' () s₁→wpAny (model prog w) A (match b with | true=>rule "set.scan.the-table-gave-way" | false=>pure ()) Q' E s₁:=
   fun b s₁ Q' hq=>by cases b<;>first | exact wpAny_pure hq | exact wpAny_rule hq
  refine wpAny_bind (gw _ _ _ ?_)
  have fin:∀(t2:SetTable),t2.fits e1.size=true→t2.led=t1.led→t2.plain=false→∀h' e2 t3 ep',Heap.SameBut a s.heap h'→h'.get? a=some { o with data:=.set e2 ep' t3 }→e2.toList.Perm e1.toList→t3.fits e2.size=true→t3.led=t2.led→(t3.plain=true→t2.plain=true)→Q true { s with heap:=h' }:=by
   intro t2 f2 l2 p2 h' e2 t3 ep' sb hg pm f3 l3 p3
   refine h h' true sb ?_
   have pall:=pm.trans lp
   obtain⟨ms',pm',hv'⟩:=vals_perm (us:=(es.toList++[(keyH w (Sum.inr ⟨l.toArray⟩),Value.str ⟨l.toArray⟩ tk)]).map (·.2)) (us':=e2.toList.map (·.2)) (pall.map _) (ms:=ms++[l]) (by
    rw[List.map_append,List.map_append]
    exact hv.append (.cons ⟨tk,rfl⟩ .nil))
   unfold addT
   rw[if_neg hnin]
   refine⟨_,e2,ep',t3,ms',hg,hex,rfl,((hel.push (knd:=mixKind prog w) hkey hsc).perm pall),f3,l3.trans (l2.trans (lt.1.trans hled)),fun z=>by rw[p2]at p3;exact absurd (p3 z) Bool.false_ne_true,pm'.trans (hp.append_right [l]),hv',?_⟩
   rw[←Array.length_toList,pm.length_eq,Array.length_toList,sz1]
   exact hn
  split
  ·refine wpAny_bind ?_
   rw[hashByValue_scannable 8 hsc]
   refine wpAny_pure ?_
   refine set_tail gw ho hd (by rw[sz1];exact hn) ?_ fun h' e2 t3 ep' q1 q2 q3 q4 q5 q6=>?_
   ·exact SetTable.fits_plain_off lf
   ·exact wpAny_pure (fin _ (SetTable.fits_plain_off lf) rfl rfl h' e2 t3 ep' q1 q2 q3 q4 q5 q6)
  ·rename_i hnp
   have hnp':t1.plain=false:=by simpa using hnp
   refine wpAny_bind (wpAny_pure ?_)
   rw[if_pos rfl]
   refine set_tail gw ho hd (by rw[sz1];exact hn) lf fun h' e2 t3 ep' q1 q2 q3 q4 q5 q6=>wpAny_pure (fin _ lf rfl hnp' h' e2 t3 ep' q1 q2 q3 q4 q5 q6)
end
def dd (val:Nat→List Nat)(i:Nat):List (List Nat):=((List.range i).map val).foldl addT []
theorem dd_succ {val:Nat→List Nat}{i:Nat}:dd val (i+1)=addT (dd val i) (val i):=by
 unfold dd
 rw[List.range_succ,List.map_append,List.foldl_append]
 rfl
theorem addT_len {ls:List (List Nat)}{l:List Nat}:(addT ls l).length≤ls.length+1:=by
 unfold addT
 split
 ·omega
 ·simp
theorem dd_len {val:Nat→List Nat}:∀i,(dd val i).length≤i
 | 0=>Nat.le_refl _
 | i+1=>by
  rw[dd_succ]
  have h1:=dd_len (val:=val) i
  have h2:=addT_len (ls:=dd val i) (l:=val i)
  omega
theorem dd_nodup {val:Nat→List Nat}:∀i,(dd val i).Nodup
 | 0=>by simp[dd]
 | i+1=>by
  rw[dd_succ]
  unfold addT
  split
  ·exact dd_nodup i
  ·rename_i h
   rw[List.nodup_append]
   refine⟨dd_nodup i,by simp,?_⟩
   intro a ha b hb e
   have:b=val i:=by simpa using hb
   subst e this
   exact h ha
section
variable {prog:Program}{w:World}{A:Around}{R:Result→Shared→Prop}{I:Addr}{fp wr:List Addr}{G:Array GenState→Array GenState→Prop}{n:Nat}{Pi:Nat→Value→Prop}{St:Nat→Shared→Prop}
theorem set_loop (W:WalksS prog w A.in1 I fp wr G n Pi St)(S:Addr)(hSf:S∉fp)(val:Nat→List Nat)(hval:∀i v,Pi i v→∃t,v=.str ⟨(val i).toArray⟩ t)(hb:n+1<scanBound){led:Bool}:
  ∀(k i:Nat) (s:Shared),n-i=k→i≤n→St i s→TxSet prog w s.heap S (dd val i) led→(∀s',Moved (S::wr) G s s'→TxSet prog w s'.heap S (dd val n) led→R (.ok (.ret .none)) s') →
   codeAny (model prog w) A (.builtin "set.update.loop" ⟨[.ref S,.ref I],[]⟩) R s:=by
 have nw:S∉wr:=fun h=>hSf (W.sub _ h)
 have up:∀b∈wr,b∈S::wr:=fun b hb=>List.mem_cons_of_mem _ hb
 intro k
 induction k with
 | zero=>
  intro i s hk hi st hS hR
  have e:i=n:=by omega
  subst e
  refine codeAny_builtin F.entry_set_update_loop ?_
  rw[Around.under_plainId F.plain_set_update_loop _]
  show wpAny _ A.in1 (pyNext (.ref I) >>= fun r=>_) _ _ s
  refine wpAny_bind (W.done s _ _ st fun s' hm=>?_)
  exact wpAny_pure (hR s' (hm.mono up) (hS.keep fun o e=>hm.heap S o nw e))
 | succ k ih=>
  intro i s hk hi st hS hR
  have hlt:i<n:=by omega
  refine codeAny_builtin F.entry_set_update_loop ?_
  rw[Around.under_plainId F.plain_set_update_loop _]
  show wpAny _ A.in1 (pyNext (.ref I) >>= fun r=>_) _ _ s
  refine wpAny_bind (W.item i s _ _ hlt st fun v s1 hP st1 hm=>?_)
  obtain⟨tk,rfl⟩:=hval i v hP
  have hS1:TxSet prog w s1.heap S (dd val i) led:=hS.keep fun o e=>hm.heap S o nw e
  show wpAny _ A.in1 (holding [Value.str ⟨(val i).toArray⟩ tk] (setAdd S (.str ⟨(val i).toArray⟩ tk)) >>= fun _=>_) _ _ s1
  refine wpAny_bind (wpAny_holding ?_)
  unfold setAdd
  refine wpAny_holding (wpAny_bind (wpAny_pyHash_str ?_))
  refine set_add (s:={ s1 with toks:=s1.toks+1 }) (l:=val i) hS1 (by have:=dd_len (val:=val) i;omega) fun h' b sb hS2=>?_
  rw[←dd_succ]at hS2
  refine wpAny_pure ⟨plainId_quiet F.plain_set_update_loop _,ih (i+1) _ (by omega) hlt (W.frame _ s1 _ _ st1 (Nat.le_succ _) fun b hb o e=>(sb.2 b fun z=>hSf (z▸hb)).trans e) hS2 fun s2 hm2 hS3=>?_⟩
  exact hR s2 (Moved.trans W.gtrans ((hm.mono up).then_heap (Nat.le_succ _) fun b o hb e=>(sb.2 b fun z=>hb (z▸List.mem_cons_self)).trans e) hm2) hS3
end
theorem vals_at {i:Nat}{u:Value}:∀ {vs:List V} {us:List Value} ,Vals vs us→us[i]?=some u→∃v,vs[i]?=some v∧RelV v u:=by
 induction i with
 | zero=>
  intro vs us r e
  cases r with
  | nil=>cases e
  | cons r1 _=>cases e;exact⟨_,rfl,r1⟩
 | succ i ih=>
  intro vs us r e
  cases r with
  | nil=>cases e
  | cons _ r2=>exact ih r2 e
structure Walked (prog:Program)(w:World)(x:Value)(s:Shared)(T:String)(n:Nat)(val:Nat→List Nat):Prop where
 ty:∀s1:Shared,(∀b o,s.heap.get? b=some o→s1.heap.get? b=some o)→s1.TypeIs x T
 go:∀(A:Around) (s1:Shared) (Q:Value→Shared→Prop) (E:Value→Shared→Prop),A.handled=none→(∀b o,s.heap.get? b=some o→s1.heap.get? b=some o) →
  (∀(h2:Heap) (I:Addr) (fp wr:List Addr) (Pi:Nat→Value→Prop) (St:Nat→Heap→Prop),(∀A':Around,A'.handled=none→Walks prog w A' I fp wr n Pi St)→St 0 h2 →
   (∀b∈fp,b<s.heap.objs.size∨s1.heap.objs.size≤b)→(∀b∈wr,s1.heap.objs.size≤b)→(∀b o,s1.heap.get? b=some o→h2.get? b=some o)→(∀i v,Pi i v→∃t,v=.str ⟨(val i).toArray⟩ t)→Q (.ref I) { s1 with heap:=h2 }) →
  wpAny (model prog w) A (pyIter x) Q E s1
theorem walked_list {prog:Program}{w:World}{s:Shared}{l:Addr}{us:List Value}{ls:List (List Nat)}(hl:s.heap.IsList l us.toArray)(r:Vals (ls.map tx) us):Walked prog w (.ref l) s "list" ls.length (fun i=>ls.getD i []) where
 ty:=fun s1 k=>by
  obtain⟨o,ho,hc,_⟩:=hl
  exact⟨o,k _ _ ho,hc⟩
 go:=fun A s1 Q E hh k h=>by
  obtain⟨o,ho,hc,hr⟩:=id hl
  have hl1:s1.heap.IsList l us.toArray:=⟨o,k _ _ ho,hc,hr⟩
  have hlt:=Heap.lt_size ho
  have hlt1:=Heap.lt_size (k _ _ ho)
  have hlen:us.toArray.size=ls.length:=by rw[List.size_toArray,←r.length,List.length_map]
  refine wpAny_pyIter_list hl1 ?_
  have W:∀A':Around,A'.handled=none→Walks prog w A' s1.heap.objs.size [s1.heap.objs.size,l] [s1.heap.objs.size] ls.length (fun i v=>us.toArray[i]?=some v) (fun i h=>h.IsListIter s1.heap.objs.size l i∧h.IsList l us.toArray):=fun A' hA=>by
   have q:=Walks.list (prog:=prog) (w:=w) hA s1.heap.objs.size l (Nat.ne_of_lt hlt1) us.toArray
   rwa [hlen]at q
  refine h _ _ _ _ _ _ W ⟨⟨_,Heap.get?_push_size _ rfl,rfl,rfl⟩,hl1.push _⟩ (fun b hb=>?_) (fun b hb=>?_) (fun b o e=>Heap.get?_push_of_some _ e) (fun i v e=>?_)
  ·rcases List.mem_cons.mp hb with z | z
   ·exact .inr (Nat.le_of_eq z.symm)
   ·have z:b=l:=by simpa using z
    rw[z];exact .inl hlt
  ·have z:b=s1.heap.objs.size:=by simpa using hb
   exact Nat.le_of_eq z.symm
  ·have e':us[i]?=some v:=by simpa using e
   obtain⟨v',hv',rv⟩:=vals_at r e'
   rw[List.getElem?_map]at hv'
   cases q:ls[i]? with
   | none=>rw[q]at hv';cases hv'
   | some m=>
    rw[q]at hv'
    cases hv'
    obtain⟨t,rfl⟩:=rv
    exact⟨t,by rw[List.getD_eq_getElem?_getD,q];rfl⟩
theorem walked_text {prog:Program}{w:World}{s:Shared}{l:List Nat}{t:Tok}:Walked prog w (.str ⟨l.toArray⟩ t) s "str" l.length (fun i=>[l.getD i 0]) where
 ty:=fun s1 _=>typeIs_str s1 _ _
 go:=fun A s1 Q E hh k h=>by
  have hlen:(⟨l.toArray⟩:Str).cps.size=l.length:=by show l.toArray.size=_;simp
  have item:∀(i:Nat) (v:Value),(∃c u,(⟨l.toArray⟩:Str).cps[i]?=some c∧v=.str ⟨#[c]⟩ u)→∃t,v=.str ⟨[l.getD i 0].toArray⟩ t:=by
   rintro i v ⟨c,u,e,rfl⟩
   have e':l[i]?=some c:=by simpa using e
   exact⟨u,by rw[List.getD_eq_getElem?_getD,e'];rfl⟩
  refine wpAny_pyIter_str fun o St W st=>?_
  rw[hlen]at W
  refine h _ _ _ _ _ _ W st (fun b hb=>.inr ?_) (fun b hb=>?_) (fun b o e=>Heap.get?_push_of_some _ e) (fun i v ⟨c,u,e,e2⟩=>item i v ⟨c,u,e,e2⟩)
  ·have z:b=s1.heap.objs.size:=by simpa using hb
   exact Nat.le_of_eq z.symm
  ·have z:b=s1.heap.objs.size:=by simpa using hb
   exact Nat.le_of_eq z.symm
section
variable {prog:Program}{w:World}{A:Around}{E:Value→Shared→Prop}{s:Shared}
abbrev noSet (led:Bool):Obj:={ cls:=.type "set",dict:=none,data:=.set #[] 0 (.fresh 0 0 led) }
theorem txset_new {h:Heap}{a:Addr}{led:Bool}(ho:h.get? a=some (noSet led)):TxSet prog w h a [] led:=
 ⟨_,#[],0,_,[],ho,⟨rfl,rfl,rfl⟩,rfl,fun e he=>by simp at he,rfl,rfl,fun _=>rfl,.refl _,.nil,by show 0<4096;decide⟩
def byTxt (w:World):Bool:=w.params.followText "set-order"
theorem set_new (a:Value){Q₁:Value→Shared→Prop}(h:Q₁ (.ref s.heap.objs.size) { s with heap:=s.heap.push (noSet (!byTxt w)) }):
  codeAny (model prog w) A (.call (.builtin "set.__new__") ⟨[.type "set",a],[]⟩) (wants Q₁ E) s:=by
 refine codeAny_of_tree ?_
 show wpAny _ A.in1 (checkBuiltinCall "set.__new__" ⟨[.type "set",a],[]⟩ >>= fun _=>again (.builtin "set.__new__" ⟨[.type "set",a],[]⟩)) _ _ s
 refine wpAny_bind (wpAny_of_eq (F.newCall_set_1 a) (wpAny_pure ⟨plainId_quiet F.plain_set_new _,codeAny_builtin F.entry_set_new ?_⟩))
 rw[Around.under_plainId F.plain_set_new _]
 unfold Builtin.«set.__new__» Builtin.Frozenset.newClass
 have hsub:=sub_set_self
 obtain⟨hp,g,d,tk,os⟩:=s
 dsimp only
 wp_walk
 refine wpAny_askSetting (wpAny_pure ?_)
 dsimp only
 simp only[newObj]
 exact wpAny_bind (wpAny_alloc (wpAny_pure (wpAny_pure h)))
set_option maxHeartbeats 3200000 in
theorem set_call {x:Value} {T:String} {n:Nat} {val:Nat→List Nat} {Q:Value→Shared→Prop} (hh:A.handled=none) (W:Walked prog w x s T n val) (t1:isSubtype (.type T) (.type "set")=pure false) (t2:isSubtype (.type T) (.type "frozenset")=pure false)
  (t3:(Value.type T == Value.type "dict")=false) (hb:n+1<scanBound)
  (h:∀(h':Heap) (tk:Nat),TxSet prog w h' s.heap.objs.size (dd val n) (!byTxt w)→(∀b o,s.heap.get? b=some o→h'.get? b=some o)→s.toks≤tk→Q (.ref s.heap.objs.size) { s with heap:=h',toks:=tk }):
  wpAny (model prog w) A (call (.type "set") [x]) Q E s:=by
 obtain⟨c,tl,hmro⟩:=F.called_set.mro
 have hmade:=F.called_set.made
 have hsub:=F.called_set.sub
 refine wpAny_call (codeAny_of_tree ?_)
 show wpAny _ _ (callAny (.type "set") _) _ _ _
 refine wpAny_pure ⟨Code.quiet_builtin _ (by decide +kernel),codeAny_builtin F.entry_type_call ?_⟩
 rw[Around.under_plain (weight_type_call_type "set" [x] []) rfl]
 have h1:=F.called_set.notType
 have h2:=F.called_set.canCreate
 have hct:=F.typeCall_set_1 x
 repeat (any_goals (first | assumption | wp_step))
 refine codeAny_mono (set_new x (E:=E) (Q₁:=fun ob s₁=>ob=.ref s.heap.objs.size∧s₁={ s with heap:=s.heap.push (noSet (!byTxt w)) }) ⟨rfl,rfl⟩) fun r s₁ hr=>?_
 cases r with
 | error e=>exact hr
 | ok fl=>
  cases fl with
  | ret ob=>
   obtain⟨rfl,rfl⟩:=hr
   have hS:(s.heap.push (noSet (!byTxt w))).get? s.heap.objs.size=some (noSet (!byTxt w)):=Heap.get?_push_size _ rfl
   have hT:Shared.TypeIs { s with heap:=s.heap.push (noSet (!byTxt w)) } (.ref s.heap.objs.size) "set":=⟨_,hS,rfl⟩
   have hli:=F.called_set.init.lookup
   have hbi:=F.called_set.init.bind (.ref s.heap.objs.size)
   have keep1:∀b o,s.heap.get? b=some o→(s.heap.push (noSet (!byTxt w))).get? b=some o:=fun b o e=>Heap.get?_push_of_some _ e
   repeat (any_goals (first | assumption | wp_step))
   refine codeAny_mono (codeAny_call_builtin (R:=wants (fun r s₂=>r=.none∧∃h' tk,s₂={ s with heap:=h',toks:=tk }∧TxSet prog w h' s.heap.objs.size (dd val n) (!byTxt w)∧(∀b o,s.heap.get? b=some o→h'.get? b=some o)∧s.toks≤tk) E)
    F.called_set.init.plain F.entry_set_init (check_set_init_1 hT ?_)) fun r₂ s₂ hr₂=>?_
   ·have hTx:=W.ty { s with heap:=s.heap.push (noSet (!byTxt w)) } keep1
    unfold Builtin.«set.__init__» noKeywords Builtin.Frozenset.updateFrom
    generalize hPI:pyIter=PI
    wp_walk
    subst hPI
    refine W.go _ _ _ _ (by simp[hh]) keep1 fun h2 I fp wr Pi St Wk st f1 f2 k2 hval=>?_
    refine wpAny_bind (wpAny_runValue ?_)
    have hSf:s.heap.objs.size∉fp:=fun z=>by
     rcases f1 _ z with q | q
     ·exact Nat.lt_irrefl _ q
     ·rw[Heap.size_push]at q;exact absurd q (Nat.not_succ_le_self _)
    refine set_loop ((Wk A.in1.in1.in1 (by simp[hh])).toS) s.heap.objs.size hSf val hval hb (n-0) 0 _ (by omega) (Nat.zero_le _) st (txset_new (k2 _ _ hS)) fun s' hm hS'=>?_
    obtain⟨h',g',d',tk',os'⟩:=s'
    have eg:g'=s.gens:=hm.gens
    have ed:d'=s.drawn:=hm.drawn
    have eo:os'=s.os:=hm.os
    have et:s.toks≤tk':=hm.toks
    subst eg ed eo
    refine wpAny_pure ?_
    refine wpAny_pure ⟨rfl,h',tk',rfl,hS',fun b o e=>?_,et⟩
    have hlt:=Heap.lt_size e
    refine hm.heap b o (fun z=>?_) (k2 b o (keep1 b o e))
    rcases List.mem_cons.mp z with q | q
    ·rw[q]at hlt;exact Nat.lt_irrefl _ hlt
    ·have q2:=f2 b q
     rw[Heap.size_push]at q2
     exact absurd (Nat.lt_of_lt_of_le hlt (Nat.le_of_succ_le q2)) (Nat.lt_irrefl _)
   ·cases r₂ with
    | error e=>exact hr₂
    | ok fl₂=>
     cases fl₂ with
     | ret r=>
      obtain⟨rfl,h',tk,rfl,hS',hk',htk⟩:=hr₂
      repeat (any_goals (first | assumption | wp_step))
      exact h _ _ hS' hk' htk
     | _=>exact hr₂.elim
  | _=>exact hr.elim
end
theorem erase_perm {α:Type}:∀(xs:List α) (i:Nat) (h:i<xs.length),(xs[i]::xs.eraseIdx i).Perm xs
 | x::xs,0,_=>.refl _
 | x::xs,i+1,h=>by
  have hi:i<xs.length:=by simpa using h
  have ih:=erase_perm xs i hi
  show (xs[i]::x::xs.eraseIdx i).Perm (x::xs)
  exact(List.Perm.swap _ _ _).trans (ih.cons x)
section
variable {M:Model}{A:Around}{E:Value→Shared→Prop}{s:Shared}
theorem wp_choose' {src:Source}{n:Nat}{Q:Nat→Shared→Prop}(hn:n≠0)(h:∀i d,i<n→Q i { s with drawn:=d }):wpAny M A (choose src n) Q E s:=fun Γ p hΓ=>by
 unfold choose
 rw[Sem.wp_choose]
 exact⟨hn,h _ _ (Nat.mod_lt _ (Nat.pos_of_ne_zero hn))⟩
theorem wp_drawOrder {α:Type}:∀(n:Nat) (xs:List α) (s:Shared) (Q:List α→Shared→Prop),xs.length=n→(∀ys d,ys.Perm xs→Q ys { s with drawn:=d })→wpAny M A (drawOrder n xs) Q E s
 | 0,xs,s,Q,hl,h=>by
  have e:xs=[]:=List.eq_nil_of_length_eq_zero hl
  subst e
  unfold drawOrder
  exact wpAny_pure (h [] s.drawn (.refl _))
 | n+1,[],s,Q,hl,h=>by cases hl
 | n+1,x::xs,s,Q,hl,h=>by
  unfold drawOrder
  refine wpAny_bind (wp_choose' (by simp) fun i d hi=>?_)
  have e:(x::xs)[i]?=some (x::xs)[i]:=List.getElem?_eq_getElem hi
  rw[e]
  dsimp only
  refine wpAny_bind (wp_drawOrder n ((x::xs).eraseIdx i) _ _ ?_ fun ys d' p=>wpAny_pure ?_)
  ·rw[List.length_eraseIdx_of_lt hi,hl];rfl
  ·refine h _ d' ((List.Perm.cons _ p).trans ?_)
   exact erase_perm _ _ hi
end
theorem entry_set_iter:entryFor table "set.__iter__"=some Builtin.«frozenset.__iter__»:=entryFor_alias (id':="frozenset.__iter__") (by kernel_rfl) rfl (by decide +kernel) (by kernel_rfl)
theorem slot_setiter_next:Slot "set_iterator" "__next__" "set_iterator.__next__":=
 .of (owner:="set_iterator") (n:="__next__") (by rw[typeLookup_type,builtinLookup_eq_fast];kernel_rfl) (by decide +kernel) (by decide +kernel) (by decide +kernel)
  (by first | exact .inl (by decide +kernel) | exact .inr (by decide +kernel)) (by rw[isSubtype_type];kernel_rfl)
theorem entry_setiter_next:entryFor table "set_iterator.__next__"=some Builtin.«set_iterator.__next__»:=entryFor_of_fast (by kernel_rfl)
theorem args_setiter_next (a:Value):argsOk "set_iterator.__next__" ⟨[a],[]⟩:=by unfold argsOk;kernel_rfl
section
variable {prog:Program}{w:World}{A:Around}{E:Value→Shared→Prop}{s:Shared}
def SetIt (h:Heap)(I S:Addr)(first:Value)(i n ep:Nat):Prop:=∃o,h.get? I=some o∧o.cls=.type "set_iterator"∧o.data=.fields #[first,.int i 0,.ref S,.int n 0,.int ep 0]
theorem fits_no {t:SetTable}{n:Nat}(hf:t.fits n=true):(t.place.size != n || decide (t.fill>t.mask))=false:=by
 simp only[SetTable.fits,Bool.and_eq_true,beq_iff_eq,decide_eq_true_eq]at hf
 simp[hf.1,Nat.not_lt.mpr hf.2]
theorem iter_set {S:Addr}{o:Obj}{es:Array (Int×Value)}{ep:Nat}{t:SetTable}{Q:Value→Shared→Prop}(ho:s.heap.get? S=some o)(hex:o.ExactSet)(hd:o.data=.set es ep t)(hf:t.fits es.size=true)(hz:es.size≤sizeLine)
  (h0:(byTxt w=true∨(t.plain=true∨es.size≤1))→Q (.ref s.heap.objs.size) { s with heap:=s.heap.push { cls:=.type "set_iterator",data:=.fields #[.int 0 0,.int 0 0,.ref S,.int es.size 0,.int ep 0] } })
  (h1:∀(ps:List Nat) (d:Drawn),ps.Perm (List.range es.size)→Q (.ref (s.heap.objs.size+1)) { s with drawn:=d,heap:=(Heap.push s.heap { cls:=.type "tuple",data:=.seq (ps.map (fun i=>Value.int ((i:Nat):Int) 0)).toArray }).push { cls:=.type "set_iterator",data:=.fields #[.ref s.heap.objs.size,.int 0 0,.ref S,.int es.size 0,.int ep 0] } }):wpAny (model prog w) A (pyIter (.ref S)) Q E s:=by
 have hT:s.TypeIs (.ref S) "set":=⟨o,ho,hex.1⟩
 refine wpAny_pyIter_slot hT F.slot_set_iter (wpAny_call_entry F.slot_set_iter hT entry_set_iter ?_ (F.args_set_iter_1 _))
 unfold Builtin.«frozenset.__iter__» Builtin.Frozenset.sizeOf setDrawn setsByText
 wp_walk
 rw[hd]
 dsimp only
 rw[fits_no hf]
 rw[if_neg Bool.false_ne_true]
 refine wpAny_pure (wpAny_pure (wpAny_pure ?_))
 refine wpAny_bind (wpAny_bind (wpAny_setState_of ho hd hf ?_))
 dsimp only
 refine wpAny_bind (wpAny_bind (wpAny_askSetting (wpAny_pure (wpAny_pure ?_))))
 show wpAny _ _ (if (!byTxt w&&(!t.plain&&decide (es.size>1)))=true then _ else _) _ _ _
 split
 ·refine wpAny_bind (wp_drawOrder es.size (List.range es.size) _ _ (by simp) fun ps d p=>?_)
  refine wpAny_bind ?_
  simp only[newTuple]
  refine wpAny_newObj_type ?_ (by show (List.map _ ps).toArray.size≤sizeLine;rw[List.size_toArray,List.length_map,p.length_eq,List.length_range];exact hz)
  refine wpAny_bind (wpAny_setEpoch_of (Heap.get?_push_of_some _ ho) hd hf (wpAny_bind (wpAny_newObj_type (wpAny_pure ⟨_,rfl,"set_iterator",_,⟨_,Heap.get?_push_size _ rfl,rfl⟩,slot_setiter_next.lookup,?_⟩))))
  have q:=h1 ps d p
  rw[Heap.size_push]
  exact q
 ·rename_i hb
  refine wpAny_bind (wpAny_pure ?_)
  refine wpAny_bind (wpAny_setEpoch_of ho hd hf (wpAny_bind (wpAny_newObj_type (wpAny_pure ⟨_,rfl,"set_iterator",_,⟨_,Heap.get?_push_size _ rfl,rfl⟩,slot_setiter_next.lookup,h0 ?_⟩))))
  cases h:byTxt w with
  | true=>exact .inl rfl
  | false=>
   refine .inr ?_
   cases h':t.plain with
   | true=>exact .inl rfl
   | false=>
    rw[h,h']at hb
    simp at hb
    exact .inr hb
end
section
variable {prog:Program}{w:World}{A:Around}{E:Value→Shared→Prop}{s:Shared}{I S:Addr}{o:Obj}{es:Array (Int×Value)}{ep i n:Nat}{t:SetTable}
theorem SetIt.typ {first:Value}(h:SetIt s.heap I S first i n ep):s.TypeIs (.ref I) "set_iterator":=let ⟨o,h1,h2,_⟩:=h;⟨o,h1,h2⟩
abbrev bySlot (I S:Addr)(slot i ep:Nat):Sem PySem.Fin:=do
 match ←setNext S slot i ep with
 | some (x,next)=>do
  setField (.ref I) 0 (rawInt (next:Nat))
  setField (.ref I) 1 (rawInt ((i:Int)+1))
  ret x
 | none=>do
  setField (.ref I) 2 Value.none
  raiseNew (←newExc (Value.type "StopIteration") [])
abbrev byPlace (I S:Addr)(first:Value)(i ep:Nat):Sem PySem.Fin:=do
 match ←seqItems? first with
 | some places=>match places[i]? with
  | some (.int place _)=>do
   let x ←setNextDrawn S place.toNat ep
   setField (.ref I) 1 (rawInt ((i:Int)+1))
   ret x
  | some _=>unsupported "internal:set_iterator"
  | none=>do
   setField (.ref I) 0 (rawInt 0)
   setField (.ref I) 2 Value.none
   raiseNew (←newExc (Value.type "StopIteration") [])
 | _=>unsupported "internal:set_iterator"
abbrev NxQ (prog:Program)(w:World)(A:Around)(Q:Option Value→Shared→Prop)(E:Value→Shared→Prop)(fin:PySem.Fin)(s':Shared):Prop:=∃v,fin=Fin.done (Flow.ret v)∧Q (some v) s'
abbrev NxE (prog:Program)(w:World)(A:Around)(Q:Option Value→Shared→Prop)(E:Value→Shared→Prop)(e:Value)(s':Shared):Prop:=
 wpAny (model prog w) A (do let b ←isInstance e (Value.type "StopIteration");if b=true then pure none else throw e) Q E s'
theorem next_slot {slot:Nat}{Q:Option Value→Shared→Prop}(hi:SetIt s.heap I S (.int (slot:Nat) 0) i es.size ep)(ho:s.heap.get? S=some o)(hd:o.data=.set es ep t)(hf:t.fits es.size=true)
  (h:wpAny (model prog w) A.in1 (bySlot I S slot i ep) (NxQ prog w A Q E) (NxE prog w A Q E) s):wpAny (model prog w) A (pyNext (.ref I)) Q E s:=by
 obtain⟨oi,hoi,hci,hdi⟩:=id hi
 unfold pyNext
 refine wpAny_bind (wpAny_attempt (wpAny_callSpecial?_slot (name:=Str.ofString "__next__") hi.typ slot_setiter_next (wpAny_call_entry slot_setiter_next hi.typ entry_setiter_next ?_ (args_setiter_next _))))
 unfold Builtin.«set_iterator.__next__»
 wp_walk
 rw[hdi]
 dsimp only
 refine wpAny_pure ?_
 dsimp only
 refine wpAny_bind (wpAny_setEntries_of ho hd hf ?_)
 (try dsimp only)
 rw[if_neg (by simp)]
 refine wpAny_mono h (fun fin s' q=>?_) fun e s' q=>q
 obtain⟨v,rfl,q⟩:=q
 exact⟨v,rfl,wpAny_pure q⟩
theorem next_place {tp:Addr}{Q:Option Value→Shared→Prop}(hi:SetIt s.heap I S (.ref tp) i es.size ep)(ho:s.heap.get? S=some o)(hd:o.data=.set es ep t)(hf:t.fits es.size=true)
  (h:wpAny (model prog w) A.in1 (byPlace I S (.ref tp) i ep) (NxQ prog w A Q E) (NxE prog w A Q E) s):wpAny (model prog w) A (pyNext (.ref I)) Q E s:=by
 obtain⟨oi,hoi,hci,hdi⟩:=id hi
 unfold pyNext
 refine wpAny_bind (wpAny_attempt (wpAny_callSpecial?_slot (name:=Str.ofString "__next__") hi.typ slot_setiter_next (wpAny_call_entry slot_setiter_next hi.typ entry_setiter_next ?_ (args_setiter_next _))))
 unfold Builtin.«set_iterator.__next__»
 wp_walk
 rw[hdi]
 dsimp only
 refine wpAny_pure ?_
 dsimp only
 refine wpAny_bind (wpAny_setEntries_of ho hd hf ?_)
 (try dsimp only)
 rw[if_neg (by simp)]
 refine wpAny_mono h (fun fin s' q=>?_) fun e s' q=>q
 obtain⟨v,rfl,q⟩:=q
 exact⟨v,rfl,wpAny_pure q⟩
theorem stop_it {Q:Option Value→Shared→Prop}(hh:A.handled=none)(hQ:∀h',(∀b o,s.heap.get? b=some o→h'.get? b=some o)→Q none { s with heap:=h' }):
  wpAny (model prog w) A.in1 (do raiseNew (←newExc (Value.type "StopIteration") [])) (NxQ prog w A Q E) (NxE prog w A Q E) s:=by
 refine wpAny_bind ?_
 simp only[newExc,newTuple]
 refine wpAny_bind (wpAny_newObj_type ?_ (by size_fits))
 refine wpAny_bind (m:=firstArgMember _ _) (wpAny_of_eq (a:=Value.none) (by first | rfl | (simp only[firstArgMember];rfl)) ?_)
 refine wpAny_newObj_type ?_ (by size_fits)
 simp only[raiseNew]
 refine wpAny_bind (wpAny_handled ?_)
 rw[show A.in1.handled=none from hh]
 refine wpAny_bind (wpAny_pure (wpAny_throw ?_))
 refine wpAny_bind (wpAny_isInstance (T:="StopIteration") (b:=true) ⟨_,Heap.get?_push_size _ rfl,rfl⟩ isSubtype_stop ?_)
 exact wpAny_pure (hQ _ fun b o e=>Heap.get?_push_of_some _ (Heap.get?_push_of_some _ e))
theorem it_put {h:Heap} {v:Value} {k:Nat} {oi:Obj} {vs:Array Value} (hoi:h.get? I=some oi) (hci:oi.cls=.type "set_iterator") (hdi:oi.data=.fields vs):
  ∃o',(h.update I (Obj.mapFields (·.setIfInBounds k v))).get? I=some o'∧o'.cls=.type "set_iterator"∧o'.data=.fields (vs.setIfInBounds k v):=
 ⟨_,Heap.get?_update_self _ hoi (Obj.isFreed_of_fields (Obj.data_mapFields hdi _)),(Obj.cls_mapFields ..).trans hci,Obj.data_mapFields hdi _⟩
theorem setNext_txt {slot:Nat}{Q:Option (Value×Nat)→Shared→Prop}(ho:s.heap.get? S=some o)(hd:o.data=.set es ep t)(hf:t.fits es.size=true)(hb:byTxt w=true)
  (h:Q (((pickOrder (w.params.setOrder S ep) es)[i]?).map fun e=>(e.2,slot)) s):wpAny (model prog w) A (setNext S slot i ep) Q E s:=by
 unfold setNext
 refine wpAny_bind (wpAny_setState_of ho hd hf ?_)
 dsimp only
 unfold setsByText
 refine wpAny_bind (wpAny_bind (wpAny_askSetting (wpAny_pure ?_)))
 show wpAny _ _ (if byTxt w=true then _ else _) _ _ _
 rw[hb,if_pos rfl,if_neg (by simp)]
 unfold setWalk
 refine wpAny_bind (wpAny_bind (wpAny_setState_of ho hd hf ?_))
 dsimp only
 unfold setsByText
 refine wpAny_bind (wpAny_bind (wpAny_askSetting (wpAny_pure ?_)))
 show wpAny _ _ (if byTxt w=true then _ else _) _ _ _
 rw[hb,if_pos rfl]
 exact wpAny_bind (wpAny_askSetting (wpAny_pure (wpAny_pure h)))
theorem setNext_one {slot:Nat}{Q:Option (Value×Nat)→Shared→Prop}(ho:s.heap.get? S=some o)(hd:o.data=.set es ep t)(hf:t.fits es.size=true)(hb:byTxt w=false)(hl:t.led=true)(h1:es.size≤1)
  (h:Q (match es[SetTable.below t.place slot]?,t.place[SetTable.below t.place slot]? with | some (_,x),some j=>some (x,j+1) | _,_=>none) s):wpAny (model prog w) A (setNext S slot i ep) Q E s:=by
 unfold setNext
 refine wpAny_bind (wpAny_setState_of ho hd hf ?_)
 dsimp only
 unfold setsByText
 refine wpAny_bind (wpAny_bind (wpAny_askSetting (wpAny_pure ?_)))
 show wpAny _ _ (if byTxt w=true then _ else (if (!t.plain&&decide (es.size>1))=true then _ else _)) _ _ _
 have hn:¬es.size>1:=by omega
 rw[hb,if_neg Bool.false_ne_true,decide_eq_false hn,Bool.and_false,if_neg Bool.false_ne_true]
 show wpAny _ _ ((if (!t.led&&!es.isEmpty)=true then (do let _ ←(unsupported "set:maker-not-led":Sem Unit);pure ()) else pure ()) >>= fun _=>_) _ _ _
 rw[hl,Bool.not_true,Bool.false_and,if_neg Bool.false_ne_true]
 exact wpAny_bind (wpAny_pure (wpAny_pure h))
end
theorem pick_perm {α:Type}{next:Nat→Nat}:∀(fuel k:Nat) (left:List α) (out:Array α),left.length=fuel→(pickOrder.go next fuel k left out).toList.Perm (out.toList++left)
 | 0,k,left,out,h=>by
  have e:left=[]:=List.eq_nil_of_length_eq_zero h
  subst e
  unfold pickOrder.go
  simp
 | fuel+1,k,left,out,h=>by
  have hlt:next k % left.length<left.length:=Nat.mod_lt _ (by omega)
  unfold pickOrder.go
  rw[List.getElem?_eq_getElem hlt]
  dsimp only
  refine(pick_perm fuel (k+1) _ _ (by rw[List.length_eraseIdx_of_lt hlt,h];rfl)).trans ?_
  rw[Array.toList_push,List.append_assoc]
  exact(erase_perm left _ hlt).append_left _
theorem pickOrder_perm {α:Type}{next:Nat→Nat}{xs:Array α}:(pickOrder next xs).toList.Perm xs.toList:=by
 unfold pickOrder
 have:=pick_perm (next:=next) xs.size 0 xs.toList #[] (by simp)
 simpa using this
theorem slot_setiter_iter:Slot "set_iterator" "__iter__" "set_iterator.__iter__":=
 .of (owner:="set_iterator") (n:="__iter__") (by rw[typeLookup_type,builtinLookup_eq_fast];kernel_rfl) (by decide +kernel) (by decide +kernel) (by decide +kernel) (by first | exact .inl (by decide +kernel) | exact .inr (by decide +kernel)) (by rw[isSubtype_type];kernel_rfl)
theorem entry_setiter_iter:entryFor table "set_iterator.__iter__"=some Builtin.«dict_keyiterator.__iter__»:=entryFor_alias (id':="dict_keyiterator.__iter__") (by kernel_rfl) rfl (by decide +kernel) (by kernel_rfl)
theorem args_setiter_iter (a:Value):argsOk "set_iterator.__iter__" ⟨[a],[]⟩:=by unfold argsOk;kernel_rfl
section
variable {prog:Program}{w:World}{A:Around}{E:Value→Shared→Prop}{s:Shared}{I S:Addr}{o:Obj}{es:Array (Int×Value)}{ep i n:Nat}{t:SetTable}
theorem iter_self {first:Value}{Q:Value→Shared→Prop}(hi:SetIt s.heap I S first i n ep)(h:Q (.ref I) s):wpAny (model prog w) A (pyIter (.ref I)) Q E s:=by
 refine wpAny_pyIter_slot hi.typ slot_setiter_iter (wpAny_call_entry slot_setiter_iter hi.typ entry_setiter_iter ?_ (args_setiter_iter _))
 show wpAny _ _ (ret (.ref I)) _ _ s
 exact wpAny_pure ⟨_,rfl,"set_iterator",_,hi.typ,slot_setiter_next.lookup,h⟩
theorem keep_other {h h':Heap}{o:Obj}(sb:Heap.SameBut I h h')(hne:S≠I)(ho:h.get? S=some o):h'.get? S=some o:=(sb.2 S hne).trans ho
theorem walks_txt (hh:A.handled=none)(hne:S≠I)(hd:o.data=.set es ep t)(hf:t.fits es.size=true)(hb:byTxt w=true):
  Walks prog w A I [I,S] [I] es.size (fun i v=>(((pickOrder (w.params.setOrder S ep) es).toList).map (·.2))[i]?=some v) (fun i h=>SetIt h I S (.int ((0:Nat):Int) 0) i es.size ep∧h.get? S=some o) where
 sub:=fun b hb=>by simp at hb;simp[hb]
 frame:=fun i h h' ⟨⟨oi,h1,r⟩,h2⟩ hk=>⟨⟨oi,hk I (by simp) _ h1,r⟩,hk S (by simp) _ h2⟩
 item:=fun i s Q E hi ⟨st,ho⟩ hQ=>by
  have hl:(pickOrder (w.params.setOrder S ep) es).size=es.size:=by rw[←Array.length_toList,pickOrder_perm.length_eq,Array.length_toList]
  have he:(pickOrder (w.params.setOrder S ep) es)[i]?=some (pickOrder (w.params.setOrder S ep) es)[i]:=by simp[hl,hi]
  refine next_slot st ho hd hf (wpAny_bind (setNext_txt ho hd hf hb ?_))
  rw[he]
  dsimp only[Option.map_some]
  obtain⟨oi,g1,g2,g3⟩:=id st
  refine wpAny_bind (wpAny_setField g1 g3 (by simp) ?_)
  obtain⟨o1,k1,k2,k3⟩:=it_put (v:=rawInt ((0:Nat):Int)) (k:=0) g1 g2 g3
  refine wpAny_bind (wpAny_setField k1 k3 (by simp) ?_)
  obtain⟨o2,m1,m2,m3⟩:=it_put (v:=rawInt ((i:Int)+1)) (k:=1) k1 k2 k3
  have sb:=(Heap.SameBut.update s.heap I (Obj.mapFields (·.setIfInBounds 0 (rawInt ((0:Nat):Int))))).trans (Heap.SameBut.update _ I (Obj.mapFields (·.setIfInBounds 1 (rawInt ((i:Int)+1)))))
  refine wpAny_pure ⟨_,rfl,hQ _ _ s.toks ?_ ⟨⟨o2,m1,m2,?_⟩,keep_other sb hne ho⟩ fun b o hb e=>(sb.2 b (by simpa using hb)).trans e⟩
  ·rw[List.getElem?_map,Array.getElem?_toList,he];rfl
  ·rw[m3];simp[rawInt]
 done:=fun s Q E ⟨st,ho⟩ hQ=>by
  have hl:(pickOrder (w.params.setOrder S ep) es).size=es.size:=by rw[←Array.length_toList,pickOrder_perm.length_eq,Array.length_toList]
  have he:(pickOrder (w.params.setOrder S ep) es)[es.size]?=none:=by simp[hl]
  refine next_slot st ho hd hf (wpAny_bind (setNext_txt ho hd hf hb ?_))
  rw[he]
  dsimp only[Option.map_none]
  obtain⟨oi,g1,g2,g3⟩:=id st
  refine wpAny_bind (wpAny_setField g1 g3 (by simp) ?_)
  have sb:=Heap.SameBut.update s.heap I (Obj.mapFields (·.setIfInBounds 2 Value.none))
  exact stop_it (A:=A) hh fun h' k=>hQ h' s.toks fun b o hb e=>k b o ((sb.2 b (by simpa using hb)).trans e)
 self:=fun i s Q E ⟨st,_⟩ hQ=>iter_self st hQ
def oneSlot (t:SetTable)(i:Nat):Nat:=if i=0 then 0 else t.place.getD 0 0+1
theorem below_zero {xs:Array Nat}:SetTable.below xs 0=0:=by
 unfold SetTable.below
 have all:∀fuel hi,SetTable.below.go xs 0 fuel 0 hi=0:=by
  intro fuel
  induction fuel with
  | zero=>intro hi;unfold SetTable.below.go;rfl
  | succ f ih=>
   intro hi
   unfold SetTable.below.go
   split
   ·rw[if_neg (Nat.not_lt_zero _)];exact ih _
   ·rfl
 exact all _ _
theorem below_one {j:Nat}:SetTable.below #[j] (j+1)=1:=by
 unfold SetTable.below
 show SetTable.below.go #[j] (j+1) 1 0 1=1
 unfold SetTable.below.go
 simp[SetTable.below.go]
theorem one_of {xs:Array Nat}(h:xs.size=1):∃j,xs=#[j]:=by
 obtain⟨l⟩:=xs
 match l,h with
 | [j],_=>exact⟨j,rfl⟩
theorem walks_one (hh:A.handled=none)(hne:S≠I)(hd:o.data=.set es ep t)(hf:t.fits es.size=true)(hb:byTxt w=false)(hl:t.led=true)(h1:es.size≤1):
  Walks prog w A I [I,S] [I] es.size (fun i v=>(es.toList.map (·.2))[i]?=some v) (fun i h=>SetIt h I S (.int ((oneSlot t i:Nat):Int) 0) i es.size ep∧h.get? S=some o) where
 sub:=fun b hb=>by simp at hb;simp[hb]
 frame:=fun i h h' ⟨⟨oi,h1,r⟩,h2⟩ hk=>⟨⟨oi,hk I (by simp) _ h1,r⟩,hk S (by simp) _ h2⟩
 item:=fun i s Q E hi ⟨st,ho⟩ hQ=>by
  have i0:i=0:=by omega
  subst i0
  have ps:t.place.size=es.size:=by
   have:=hf
   simp only[SetTable.fits,Bool.and_eq_true,beq_iff_eq]at this
   exact this.1
  have he:es[0]?=some es[0]:=by simp[hi]
  have hp:t.place[0]?=some (t.place.getD 0 0):=by
   have:0<t.place.size:=by omega
   simp[this]
  refine next_slot st ho hd hf (wpAny_bind (setNext_one ho hd hf hb hl h1 ?_))
  rw[show oneSlot t 0=0 from rfl,below_zero,he,hp]
  dsimp only
  obtain⟨oi,g1,g2,g3⟩:=id st
  refine wpAny_bind (wpAny_setField g1 g3 (by simp) ?_)
  obtain⟨o1,k1,k2,k3⟩:=it_put (v:=rawInt ((t.place.getD 0 0+1:Nat):Int)) (k:=0) g1 g2 g3
  refine wpAny_bind (wpAny_setField k1 k3 (by simp) ?_)
  obtain⟨o2,m1,m2,m3⟩:=it_put (v:=rawInt (((0:Nat):Int)+1)) (k:=1) k1 k2 k3
  have sb:=(Heap.SameBut.update s.heap I (Obj.mapFields (·.setIfInBounds 0 (rawInt ((t.place.getD 0 0+1:Nat):Int))))).trans (Heap.SameBut.update _ I (Obj.mapFields (·.setIfInBounds 1 (rawInt (((0:Nat):Int)+1)))))
  refine wpAny_pure ⟨_,rfl,hQ _ _ s.toks ?_ ⟨⟨o2,m1,m2,?_⟩,keep_other sb hne ho⟩ fun b o hb e=>(sb.2 b (by simpa using hb)).trans e⟩
  ·rw[List.getElem?_map,Array.getElem?_toList,he];rfl
  ·rw[m3];simp[rawInt,oneSlot]
 done:=fun s Q E ⟨st,ho⟩ hQ=>by
  have ps:t.place.size=es.size:=by
   have:=hf
   simp only[SetTable.fits,Bool.and_eq_true,beq_iff_eq]at this
   exact this.1
  have hn:es[SetTable.below t.place (oneSlot t es.size)]?=none:=by
   have hz:es.size=0∨es.size=1:=by omega
   rcases hz with z | z
   ·simp[z]
   ·have e1:∃j,t.place=#[j]:=by
     have:t.place.size=1:=by omega
     exact one_of this
    obtain⟨j,ej⟩:=e1
    have:oneSlot t es.size=j+1:=by unfold oneSlot;rw[if_neg (by omega),ej];rfl
    rw[this,ej,below_one]
    simp[z]
  refine next_slot st ho hd hf (wpAny_bind (setNext_one ho hd hf hb hl h1 ?_))
  rw[hn]
  dsimp only
  obtain⟨oi,g1,g2,g3⟩:=id st
  refine wpAny_bind (wpAny_setField g1 g3 (by simp) ?_)
  have sb:=Heap.SameBut.update s.heap I (Obj.mapFields (·.setIfInBounds 2 Value.none))
  exact stop_it (A:=A) hh fun h' k=>hQ h' s.toks fun b o hb e=>k b o ((sb.2 b (by simpa using hb)).trans e)
 self:=fun i s Q E ⟨st,_⟩ hQ=>iter_self st hQ
theorem next_drawn {p:Nat}{e:Int×Value}{Q:Value→Shared→Prop}(ho:s.heap.get? S=some o)(hd:o.data=.set es ep t)(hf:t.fits es.size=true)(he:es[p]?=some e)(h:Q e.2 s):wpAny (model prog w) A (setNextDrawn S p ep) Q E s:=by
 unfold setNextDrawn
 refine wpAny_bind (wpAny_setState_of ho hd hf ?_)
 dsimp only
 rw[if_neg (by simp),he]
 exact wpAny_pure h
theorem walks_drawn {tp:Addr}{ps:List Nat}(hh:A.handled=none)(hne:S≠I)(hnt:tp≠I)(hd:o.data=.set es ep t)(hf:t.fits es.size=true)(hp:ps.Perm (List.range es.size)):
  Walks prog w A I [I,S,tp] [I] es.size (fun i v=>(ps.map fun p=>(es.getD p (0,.none)).2)[i]?=some v) (fun i h=>SetIt h I S (.ref tp) i es.size ep∧h.get? S=some o∧h.get? tp=some { cls:=.type "tuple",data:=.seq (ps.map (fun i=>Value.int ((i:Nat):Int) 0)).toArray }) where
 sub:=fun b hb=>by simp at hb;simp[hb]
 frame:=fun i h h' ⟨⟨oi,h1,r⟩,h2,h3⟩ hk=>⟨⟨oi,hk I (by simp) _ h1,r⟩,hk S (by simp) _ h2,hk tp (by simp) _ h3⟩
 item:=fun i s Q E hi ⟨st,ho,ht⟩ hQ=>by
  have hl:ps.length=es.size:=by rw[hp.length_eq,List.length_range]
  have hi':i<ps.length:=by omega
  have hpi:ps[i]?=some ps[i]:=List.getElem?_eq_getElem hi'
  have hlt:ps[i]<es.size:=List.mem_range.mp (hp.mem_iff.mp (List.getElem_mem hi'))
  have he:es[ps[i]]?=some es[ps[i]]:=by simp[hlt]
  refine next_place st ho hd hf (wpAny_bind (wpAny_seqItems ht rfl ?_))
  dsimp only
  have hx:((ps.map (fun i=>Value.int ((i:Nat):Int) 0)).toArray)[i]?=some (Value.int ((ps[i]:Nat):Int) 0):=by simp[hpi]
  rw[hx]
  dsimp only
  refine wpAny_bind (next_drawn ho hd hf he ?_)
  obtain⟨oi,g1,g2,g3⟩:=id st
  refine wpAny_bind (wpAny_setField g1 g3 (by simp) ?_)
  obtain⟨o2,m1,m2,m3⟩:=it_put (v:=rawInt ((i:Int)+1)) (k:=1) g1 g2 g3
  have sb:=Heap.SameBut.update s.heap I (Obj.mapFields (·.setIfInBounds 1 (rawInt ((i:Int)+1))))
  refine wpAny_pure ⟨_,rfl,hQ _ _ s.toks ?_ ⟨⟨o2,m1,m2,?_⟩,keep_other sb hne ho,keep_other sb hnt ht⟩ fun b o hb e=>(sb.2 b (by simpa using hb)).trans e⟩
  ·rw[List.getElem?_map,hpi];simp[hlt]
  ·rw[m3];simp[rawInt]
 done:=fun s Q E ⟨st,ho,ht⟩ hQ=>by
  have hl:ps.length=es.size:=by rw[hp.length_eq,List.length_range]
  refine next_place st ho hd hf (wpAny_bind (wpAny_seqItems ht rfl ?_))
  dsimp only
  have hx:((ps.map (fun i=>Value.int ((i:Nat):Int) 0)).toArray)[es.size]?=none:=by simp[hl]
  rw[hx]
  dsimp only
  obtain⟨oi,g1,g2,g3⟩:=id st
  refine wpAny_bind (wpAny_setField g1 g3 (by simp) ?_)
  obtain⟨o1,k1,k2,k3⟩:=it_put (v:=rawInt 0) (k:=0) g1 g2 g3
  refine wpAny_bind (wpAny_setField k1 k3 (by simp) ?_)
  have sb:=(Heap.SameBut.update s.heap I (Obj.mapFields (·.setIfInBounds 0 (rawInt 0)))).trans (Heap.SameBut.update _ I (Obj.mapFields (·.setIfInBounds 2 Value.none)))
  exact stop_it (A:=A) hh fun h' k=>hQ h' s.toks fun b o hb e=>k b o ((sb.2 b (by simpa using hb)).trans e)
 self:=fun i s Q E ⟨st,_⟩ hQ=>iter_self st hQ
end
theorem hint_set_len:typeLookup (.type "set") "__len__"=pure (some (.builtin "set.__len__")):=by rw[typeLookup_type,builtinLookup_eq_fast];kernel_rfl
section
variable {prog:Program}{w:World}{A:Around}{E:Value→Shared→Prop}{s:Shared}
theorem vals_drawn {es:Array (Int×Value)}{ps:List Nat}(hp:ps.Perm (List.range es.size)):(ps.map fun p=>(es.getD p (0,.none)).2).Perm (es.toList.map (·.2)):=by
 have q:=hp.map (fun p=>(es.getD p (0,.none)).2)
 refine q.trans (.of_eq ?_)
 apply List.ext_getElem
 ·simp
 ·intro n h1 h2
  have hn:n<es.size:=by simpa using h2
  simp[hn]
theorem iter_txset {S:Addr}{ls:List (List Nat)}{Q:Value→Shared→Prop}(hS:TxSet prog w s.heap S ls (!byTxt w))
  (h:∀(h2:Heap) (d:Drawn) (I:Addr) (fp:List Addr) (vs:List Value) (ms:List (List Nat)) (St:Nat→Heap→Prop),(∀A':Around,A'.handled=none→Walks prog w A' I fp [I] ls.length (fun i v=>vs[i]?=some v) St)→St 0 h2 →
   (∀b∈fp,b=S∨s.heap.objs.size≤b)→s.heap.objs.size≤I→(∀b o,s.heap.get? b=some o→h2.get? b=some o)→ms.Perm ls→Vals (ms.map tx) vs→Q (.ref I) { s with heap:=h2,drawn:=d }):
  wpAny (model prog w) A (pyIter (.ref S)) Q E s:=by
 obtain⟨o,es,ep,t,ms,ho,hex,hd,hel,hf,hled,hpl,hp,hv,hb⟩:=hS
 have hlen:es.size=ls.length:=by
  have q:=hv.length
  rw[List.length_map,List.length_map]at q
  rw[←Array.length_toList,←q,hp.length_eq]
 have hlt:=Heap.lt_size ho
 refine iter_set ho hex hd hf (fits_of_scanBound hb) (fun hc=>?_) fun ps d pp=>?_
 ·have nI:S≠s.heap.objs.size:=Nat.ne_of_lt hlt
  have st:(s.heap.push ({ cls:=.type "set_iterator",data:=.fields #[.int 0 0,.int 0 0,.ref S,.int es.size 0,.int ep 0] }:Obj)).get? s.heap.objs.size=some { cls:=.type "set_iterator",data:=.fields #[.int 0 0,.int 0 0,.ref S,.int es.size 0,.int ep 0] }:=Heap.get?_push_size _ rfl
  have fp:∀b∈[s.heap.objs.size,S],b=S∨s.heap.objs.size≤b:=fun b hb=>by
   rcases List.mem_cons.mp hb with z | z
   ·exact .inr (Nat.le_of_eq z.symm)
   ·exact .inl (by simpa using z)
  cases hby:byTxt w with
  | true=>
   obtain⟨ms',p',r'⟩:=vals_perm ((pickOrder_perm (next:=w.params.setOrder S ep) (xs:=es)).map (·.2)) hv
   have W:∀A':Around,A'.handled=none→_:=fun A' hA=>walks_txt (prog:=prog) (w:=w) (A:=A') (I:=s.heap.objs.size) (S:=S) (o:=o) hA nI hd hf hby
   rw[hlen]at W
   exact h _ s.drawn _ _ _ ms' _ W ⟨⟨_,st,rfl,by rw[hlen];rfl⟩,Heap.get?_push_of_some _ ho⟩ fp (Nat.le_refl _) (fun b o e=>Heap.get?_push_of_some _ e) (p'.trans hp) r'
  | false=>
   have h1:es.size≤1:=by
    rcases hc with z | z | z
    ·rw[hby]at z;cases z
    ·rw[hpl z];exact Nat.zero_le _
    ·exact z
   have hl:t.led=true:=by rw[hled,hby];rfl
   have W:∀A':Around,A'.handled=none→_:=fun A' hA=>walks_one (prog:=prog) (w:=w) (A:=A') (I:=s.heap.objs.size) (S:=S) (o:=o) hA nI hd hf hby hl h1
   rw[hlen]at W
   exact h _ s.drawn _ _ _ ms _ W ⟨⟨_,st,rfl,by rw[hlen];rfl⟩,Heap.get?_push_of_some _ ho⟩ fp (Nat.le_refl _) (fun b o e=>Heap.get?_push_of_some _ e) hp hv
 ·have nI:S≠s.heap.objs.size+1:=Nat.ne_of_lt (Nat.lt_succ_of_lt hlt)
  have nT:s.heap.objs.size≠s.heap.objs.size+1:=Nat.ne_of_lt (Nat.lt_succ_self _)
  obtain⟨ms',p',r'⟩:=vals_perm (vals_drawn pp) hv
  have W:∀A':Around,A'.handled=none→_:=fun A' hA=>walks_drawn (prog:=prog) (w:=w) (A:=A') (I:=s.heap.objs.size+1) (S:=S) (o:=o) (tp:=s.heap.objs.size) hA nI nT hd hf pp
  rw[hlen]at W
  refine h _ d _ _ _ ms' _ W ⟨⟨{ cls:=.type "set_iterator",data:=.fields #[.ref s.heap.objs.size,.int 0 0,.ref S,.int es.size 0,.int ep 0] },?_,rfl,by rw[hlen];rfl⟩,Heap.get?_push_of_some _ (Heap.get?_push_of_some _ ho),Heap.get?_push_of_some _ (Heap.get?_push_size _ rfl)⟩ ?_ (Nat.le_succ _) (fun b o e=>Heap.get?_push_of_some _ (Heap.get?_push_of_some _ e)) (p'.trans hp) r'
  ·rw[←Heap.size_push];exact Heap.get?_push_size _ rfl
  ·intro b hb
   rcases List.mem_cons.mp hb with z | z
   ·exact .inr (by rw[z];exact Nat.le_succ _)
   ·rcases List.mem_cons.mp z with z | z
    ·exact .inl z
    ·have z:b=s.heap.objs.size:=by simpa using z
     exact .inr (Nat.le_of_eq z.symm)
theorem collect_set {S:Addr}{ls:List (List Nat)}{Q:List Value→Shared→Prop}(hh:A.handled=none)(hS:TxSet prog w s.heap S ls (!byTxt w))(hn:ls.length≤sizeLine)
  (hQ:∀(s':Shared) (vs:List Value) (ms:List (List Nat)),(∀b o,s.heap.get? b=some o→s'.heap.get? b=some o)→s'.gens=s.gens→s'.os=s.os→ms.Perm ls→Vals (ms.map tx) vs→Q vs s'):wpAny (model prog w) A (collect (.ref S)) Q E s:=by
 unfold collect
 refine wpAny_bind (wpAny_runValue (codeAny_builtin F.entry_proto_collect ?_))
 rw[Around.under_plainId F.plain_proto_collect _]
 show wpAny _ A.in1 (newList [] >>= fun l=>again (.builtin "list.__iadd__" ⟨[l,.ref S],[]⟩)) _ _ s
 refine wpAny_bind (wpAny_newObj_type (wpAny_pure ⟨plainId_quiet F.plain_list_iadd _,codeAny_builtin F.entry_list_iadd ?_⟩))
 rw[Around.under_plainId F.plain_list_iadd _]
 generalize hH:s.heap.push { cls:=.type "list",data:=.seq ([]:List Value).toArray }=H
 have hHs:H.objs.size=s.heap.objs.size+1:=by rw[←hH,Heap.size_push]
 have hL:H.get? s.heap.objs.size=some { cls:=.type "list",data:=.seq ([]:List Value).toArray }:=hH▸Heap.get?_push_size _ rfl
 have k1:∀b o,s.heap.get? b=some o→H.get? b=some o:=fun b o e=>hH▸Heap.get?_push_of_some _ e
 have hS1:TxSet prog w H S ls (!byTxt w):=hS.keep fun o e=>k1 S o e
 have hT:Shared.TypeIs { s with heap:=H } (.ref S) "set":=hS1.typ (s:={ s with heap:=H })
 have nS:S≠s.heap.objs.size:=by
  obtain⟨o,_,_,_,_,ho,_⟩:=hS
  exact Nat.ne_of_lt (Heap.lt_size ho)
 show wpAny _ A.in1 (Builtin.List.listExtendWith (.ref s.heap.objs.size) (.ref S) (.ref s.heap.objs.size)) _ _ { s with heap:=H }
 unfold Builtin.List.listExtendWith
 refine wpAny_bind (wpAny_typeOf hT ?_)
 have h1:Builtin.List.listSameRef (.ref s.heap.objs.size) (.ref S)=false:=by simp[Builtin.List.listSameRef,Ne.symm nS]
 have h2:(Value.type "set" == Value.type "list")=false:=by decide
 have h3:(Value.type "set" == Value.type "tuple")=false:=by decide
 simp only[h1,h2,h3,Bool.or_false,Bool.false_eq_true,if_false]
 refine wpAny_bind (iter_txset (s:={ s with heap:=H }) hS1 fun h2' d I fp vs ms St W st hfp hI k2 hp hv=>?_)
 have hT2:Shared.TypeIs { s with heap:=h2',drawn:=d } (.ref S) "set":=(hS1.keep fun o e=>k2 S o e).typ (s:={ s with heap:=h2',drawn:=d })
 refine wpAny_bind (wpAny_holding ?_)
 unfold Builtin.List.listLengthHint
 refine wpAny_bind (wpAny_specialOf hT2 hint_set_len ?_)
 wp_delta
 refine wpAny_bind (wpAny_isInstance (T:="set") (v:=.ref S) (b:=true) hT2 (by rw[isSubtype_type];kernel_rfl) ?_)
 show wpAny _ A.in1 (typeOf (Value.ref S) >>= fun r=>_) _ _ _
 refine wpAny_bind (wpAny_typeOf hT2 ?_)
 refine wpAny_pure ?_
 rw[if_pos (by decide)]
 refine wpAny_bind (wpAny_rule ?_)
 have hL2:h2'.get? s.heap.objs.size=some { cls:=.type "list",data:=.seq ([]:List Value).toArray }:=k2 _ _ hL
 refine wpAny_bind ?_
 show wpAny _ A.in1 (updateSeq s.heap.objs.size (·.push .none) >>= fun _=>updateSeq s.heap.objs.size (·.pop)) _ _ _
 refine wpAny_bind (wpAny_updateSeq hL2 rfl ?_)
 have hL3:=Heap.get?_update_self (Obj.mapSeq (·.push Value.none)) hL2 rfl
 refine wpAny_updateSeq hL3 rfl ?_
 have hL4:=Heap.get?_update_self (Obj.mapSeq (·.pop)) hL3 rfl
 have oth:∀b o,b≠s.heap.objs.size→h2'.get? b=some o→((h2'.update s.heap.objs.size (Obj.mapSeq (·.push Value.none))).update s.heap.objs.size (Obj.mapSeq (·.pop))).get? b=some o:=
  fun b o hb e=>(Heap.get?_update_other _ _ (Ne.symm hb)).trans ((Heap.get?_update_other _ _ (Ne.symm hb)).trans e)
 have hle:s.heap.objs.size+1≤I:=by rw[←hHs];exact hI
 have hSf:s.heap.objs.size∉fp:=fun z=>by
  rcases hfp _ z with q | q
  ·exact nS q.symm
  ·have q':H.objs.size≤s.heap.objs.size:=q
   rw[hHs]at q';exact absurd q' (Nat.not_succ_le_self _)
 refine wpAny_pure ⟨plainId_quiet F.plain_extend_loop _,codeAny_extend_loopS (W A.in1 hh).toS hn _ hSf _ ls.length 0 _ _ _ rfl (Nat.zero_le _) ((W A.in1 hh).frame 0 h2' _ st fun b hb o e=>oth b o (fun z=>hSf (z▸hb)) e) hL4 (ItemsOf.nil _) fun s' acc' c' hm hS' hacc=>?_⟩
 show wpAny _ A (load s.heap.objs.size >>= fun r=>_) _ _ s'
 refine wpAny_bind (wpAny_load hS' ?_)
 have hvs:acc'.toList=vs:=by
  have hl:vs.length=ls.length:=by rw[←hv.length,List.length_map,hp.length_eq]
  apply List.ext_getElem?
  intro j
  rw[Array.getElem?_toList]
  by_cases hj:j<ls.length
  ·have hj':j<acc'.size:=by rw[hacc.1];exact hj
   have e:acc'[j]?=some acc'[j]:=by simp[hj']
   rw[e,hacc.2 j _ e]
  ·rw[Array.getElem?_eq_none (by rw[hacc.1];omega),List.getElem?_eq_none (by omega)]
 have done:=hQ s' vs ms (fun b o e=>by
  have hlt:=Heap.lt_size e
  refine hm.heap b o (fun z=>?_) (oth b o (Nat.ne_of_lt hlt) (k2 b o (k1 b o e)))
  rcases List.mem_cons.mp z with q | q
  ·rw[q]at hlt;exact Nat.lt_irrefl _ hlt
  ·have q:b=I:=by simpa using q
   rw[q]at hlt
   exact absurd hlt (Nat.not_lt.mpr (Nat.le_of_succ_le hle))) hm.gens hm.os hp hv
 rw[←hvs]at done
 exact wpAny_pure done
end
def leT (a b:List Nat):Bool:=!decide (b<a)
def sortT (ls:List (List Nat)):List (List Nat):=ls.mergeSort leT
theorem leT_iff {a b:List Nat}:leT a b=true↔a≤b:=by
 unfold leT
 rw[Bool.not_eq_true',decide_eq_false_iff_not]
 exact List.not_lt
theorem sortT_perm (ls:List (List Nat)):(sortT ls).Perm ls:=List.mergeSort_perm _ _
theorem sortT_sorted (ls:List (List Nat)):(sortT ls).Pairwise (fun a b=>leT a b=true):=
 List.pairwise_mergeSort (le:=leT) (fun a b c h1 h2=>leT_iff.mpr (List.le_trans (leT_iff.mp h1) (leT_iff.mp h2))) (fun a b=>Bool.or_eq_true_iff.mpr ((List.le_total a b).imp leT_iff.mpr leT_iff.mpr)) ls
theorem sortT_uniq {ms ls:List (List Nat)}(p:ms.Perm ls)(h:ms.Pairwise (fun a b=>leT a b=true)):ms=sortT ls:=
 List.Perm.eq_of_pairwise (fun a b _ _ h1 h2=>List.le_antisymm (leT_iff.mp h1) (leT_iff.mp h2)) h (sortT_sorted ls) (p.trans (sortT_perm ls).symm)
theorem sortT_congr {ms ls:List (List Nat)}(p:ms.Perm ls):sortT ms=sortT ls:=sortT_uniq ((sortT_perm ms).trans p) (sortT_sorted ms)
theorem strs_of:∀ {us:List Value} {ss:List Str},StrsAre us ss→Vals ((ss.map fun x=>x.cps.toList).map tx) us
 | _,_,.nil=>.nil
 | _,_,.cons x t h=>.cons ⟨t,rfl⟩ (strs_of h)
theorem pw_of_sortedS:∀ {ss:List Str},sortedS ss=true→(ss.map fun x=>x.cps.toList).Pairwise (fun a b=>leT a b=true):=by
 have ris:∀(p:Str) (l:List Str),risingS p l=true→((p::l).map fun x=>x.cps.toList).Pairwise (fun a b=>leT a b=true):=by
  intro p l
  induction l generalizing p with
  | nil=>intro _;simp
  | cons x r ih=>
   intro h
   have h':(!ltCps x.cps.toList p.cps.toList&&risingS x r)=true:=h
   rw[Bool.and_eq_true,ltCps_eq]at h'
   have q:=ih x h'.2
   rw[List.map_cons,List.pairwise_cons]
   refine⟨fun b hb=>?_,q⟩
   have hx:leT p.cps.toList x.cps.toList=true:=h'.1
   rw[List.map_cons]at hb q
   rcases List.mem_cons.mp hb with z | z
   ·rw[z];exact hx
   ·exact leT_iff.mpr (List.le_trans (leT_iff.mp hx) (leT_iff.mp ((List.pairwise_cons.mp q).1 b z)))
 intro ss h
 cases ss with
 | nil=>simp
 | cons x r=>exact ris x r h
theorem strs_back {us:List Value}{ls:List (List Nat)}(r:Vals (ls.map tx) us):StrsAre us (ls.map fun l=>(⟨l.toArray⟩:Str)):=strsAre_tx r
theorem back_map (ls:List (List Nat)):(ls.map fun l=>(⟨l.toArray⟩:Str)).map (fun x=>x.cps.toList)=ls:=by
 rw[List.map_map]
 conv=>rhs;rw[←List.map_id ls]
 apply List.map_congr_left
 intro l _
 simp
section
variable {prog:Program}{w:World}{A:Around}{E:Value→Shared→Prop}{s:Shared}
theorem sort_tail {vs:List Value}{ms:List (List Nat)}{Q:Value→Shared→Prop}(hv:Vals (ms.map tx) vs)(h64:ms.length<64)
  (h:∀(h':Heap) (us:List Value) (e:Nat),(∀b o,s.heap.get? b=some o→h'.get? b=some o)→h'.get? s.heap.objs.size=some { cls:=.type "list",data:=.seq us.toArray e }→Vals ((sortT ms).map tx) us→Q (.ref s.heap.objs.size) { s with heap:=h' }):
  wpAny (model prog w) A (do let l ←newList vs;let _ ←holding [l] (call (.builtin "list.sort") [l] []);ret l) (fun fin s'=>∃v,fin=Fin.done (Flow.ret v)∧Q v s') E s:=by
 have hS:=strs_back hv
 have hlen:vs.length<64:=by rw[←hv.length,List.length_map];exact h64
 refine wpAny_bind (wpAny_newList ?_ ?_)
 ·have hoL:(s.heap.push (seqObj "list" vs.toArray 0)).get? s.heap.objs.size=some (seqObj "list" vs.toArray 0):=Heap.get?_push_size _ rfl
  refine wpAny_bind (wpAny_holding (wpAny_call_entry slot_list_sort ⟨_,hoL,rfl⟩ entry_list_sort (list_sort_treeK strKind_oneLt hoL hS.keysOf (fun v₁ v₂ rest e=>keyKind_strs (by rw[←e];exact hS)) hlen fun st' a1 a2=>⟨_,rfl,?_⟩) (args_list_sort _)))
  obtain⟨ss',b1,b2,b3⟩:=sorted_out_str hS a1 a2
  obtain⟨e,he⟩:=sortedHeap_at (out:=(arrOf st').map (·.2)) hoL
  refine wpAny_pure ⟨_,rfl,h _ ((arrOf st').map (·.2)).toList e (fun b o q=>?_) ?_ ?_⟩
  ·have hlt:=Heap.lt_size q
   have hlt':b<(s.heap.push (seqObj "list" vs.toArray 0)).objs.size:=by rw[Heap.size_push];exact Nat.lt_succ_of_lt hlt
   exact(sortedHeap_old (Nat.ne_of_lt hlt) hlt').trans (Heap.get?_push_of_some _ q)
  ·have q:((arrOf st').map (·.2)).toList.toArray=(arrOf st').map (·.2):=Array.toArray_toList
   rw[q];exact he
  ·have p1:(ss'.map fun x=>x.cps.toList).Perm ms:=by
    have:=b2.map (fun x:Str=>x.cps.toList)
    rwa [back_map]at this
   have e1:=sortT_uniq p1 (pw_of_sortedS b3)
   rw[←e1]
   exact strs_of b1
 ·exact Nat.le_trans (Nat.le_of_lt hlen) (by rw[sizeLine_eq];decide)
theorem sorted_set {S:Addr}{ls:List (List Nat)}{Q:Value→Shared→Prop}(hh:A.handled=none)(hS:TxSet prog w s.heap S ls (!byTxt w))(h64:ls.length<64)
  (h:∀(s':Shared) (a:Addr) (us:List Value) (e:Nat),s.heap.get? a=none→(∀b o,s.heap.get? b=some o→s'.heap.get? b=some o)→s'.gens=s.gens→s'.os=s.os→s'.heap.get? a=some { cls:=.type "list",data:=.seq us.toArray e }→Vals ((sortT ls).map tx) us→Q (.ref a) s'):
  wpAny (model prog w) A (call (.builtin "sorted") [.ref S]) Q E s:=by
 refine Calls.call_function_entry kind_sorted plain_sorted entry_sorted (args_sorted1 _) ?_
 unfold Builtin.«sorted»
 refine wpAny_bind (m:=checkCount "sorted" 1 1 _) (wpAny_pure ?_)
 refine wpAny_bind (collect_set (by first | exact hh | simpa using hh) hS (Nat.le_trans (Nat.le_of_lt h64) (by rw[sizeLine_eq];decide)) fun s' vs ms k1 hg ho hp hv=>?_)
 have hl:ms.length<64:=by rw[hp.length_eq];exact h64
 refine sort_tail hv hl fun h' us e k2 he r=>?_
 rw[sortT_congr hp]at r
 exact h _ _ us e (by
  cases q:s.heap.get? s'.heap.objs.size with
  | none=>rfl
  | some o=>exact absurd (Heap.lt_size (k1 _ _ q)) (Nat.lt_irrefl _)) (fun b o q=>k2 b o (k1 b o q)) hg ho he r
end
structure Fly (B:Heap)(l:List Env)(e:Addr)(C:Value)(d:Option Addr)(fl:Value)(h:Heap):Prop where
 st:B.StaysIn h
 ne:B.get? e=none
 fr:h.FunFrames B l
 tr:∃oe vs T oT ts,h.get? e=some oe∧oe.cls=C∧oe.dict=d∧oe.data=.fields vs∧vs[1]?=some (.ref T)∧B.get? T=none∧T≠e∧h.get? T=some oT∧oT.data=.fields ts∧ts[3]?=some fl
theorem dict_map (o:Obj)(f:Array Value→Array Value):(o.mapFields f).dict=o.dict:=by
 obtain⟨c,d,dt,sl⟩:=o
 cases dt<;>rfl
section
variable {M:Model}{A:Around}{E:Value→Shared→Prop}{s:Shared}{B:Heap}{env:Env}{outer:List Env}{L e:Addr}{C:Value}{d:Option Addr}{Q:Unit→Shared→Prop}
theorem note_core {oe:Obj}{vs:Array Value}{head:Value}{hadNext:Bool}(hfr:A.frames=some (env::outer))(hl:s.heap.FunFrames B (env::outer))(hf:env.frame=some L)(he:s.heap.get? e=some oe)(hkb:B.StaysIn s.heap)(hen:B.get? e=none)
  (hc:oe.cls=C) (hdd:oe.dict=d) (hd:oe.data=.fields vs) (hsz:1<vs.size) (h:∀h',Fly B (env::outer) e C d (rawInt L) h'→s.heap.UpToSlots h'→Q () { s with heap:=h' }):
  wpAny M A (do let a ←frameOf env;let pl ←entryPlaceOf L hadNext;let b ←EntryCells.newEntry head a .none (rawInt L) .none pl;setField (.ref e) 1 b) Q E s:=by
 have hene:e∉(env::outer).filterMap (·.frame):=fun hm=>by
  obtain⟨_,o,ho,hnf⟩:=hl.mem hm
  rw[he]at ho
  cases ho
  exact hnf vs hd
 refine wpAny_bind (wpAny_frameOf_fun hfr hl hf fun h1 hs=>wpAny_bind (wpAny_entryPlaceOf fun pl hpl=>?_))
 unfold EntryCells.newEntry newFields
 refine wpAny_bind (wpAny_newObj_type ?_ (hpl.sizeOk5 _ _ _ _ _))
 have e1:h1.get? e=some oe:=(hs.2.1 e hene).trans he
 have k1:B.StaysIn h1:=fun b o hbo=>(hs.2.1 b fun hm=>by rw[(hl.mem hm).1]at hbo;cases hbo).trans (hkb b o hbo)
 generalize eT:({ cls:=.type "traceback",dict:=none,data:=.fields ([head,.ref L,.none,rawInt L,.none]++(if pl.isEmpty then List.replicate 6 Value.none else pl)).toArray }:Obj)=oT
 have e2:(h1.push oT).get? e=some oe:=Heap.get?_push_of_some _ e1
 refine wpAny_setField e2 hd hsz ?_
 have nT:h1.objs.size≠e:=Nat.ne_of_gt (Heap.lt_size e1)
 have d3:=Obj.data_mapFields hd (·.setIfInBounds 1 (Value.ref h1.objs.size))
 have e3:=Heap.get?_update_self (Obj.mapFields (·.setIfInBounds 1 (Value.ref h1.objs.size))) e2 (Obj.isFreed_of_fields d3)
 have t3:((h1.push oT).update e (Obj.mapFields (·.setIfInBounds 1 (Value.ref h1.objs.size)))).get? h1.objs.size=some oT:=by
  rw[Heap.get?_update_other _ _ (Ne.symm nT)]
  refine Heap.get?_push_size _ ?_
  rw[←eT];rfl
 have keep:∀b o,b≠e→h1.get? b=some o→((h1.push oT).update e (Obj.mapFields (·.setIfInBounds 1 (Value.ref h1.objs.size)))).get? b=some o:=fun b o hb q=>by
  rw[Heap.get?_update_other _ _ (Ne.symm hb)]
  exact Heap.get?_push_of_some _ q
 have nrec:∀b o,s.heap.get? b=some o→(∀vs,o.data≠.fields vs)→b≠e:=fun b o q n z=>by
  rw[z,he]at q
  cases q
  exact n vs hd
 have dT:oT.data=.fields ([head,.ref L,.none,rawInt L,.none]++(if pl.isEmpty then List.replicate 6 Value.none else pl)).toArray:=by rw[←eT]
 refine h _ ⟨fun b o q=>keep b o (fun z=>by rw[z,hen]at q;cases q) (k1 b o q),hen,hl.of_keeps fun b o q n=>?_,_,_,h1.objs.size,oT,_,e3,(Obj.cls_mapFields _ _).trans hc,(dict_map _ _).trans hdd,d3,?_,k1.fresh,nT,t3,dT,?_⟩ fun b o q n=>?_
 ·obtain⟨sl,q2⟩:=hs.2.2 b o q
  exact⟨_,keep b _ (nrec b o q n) q2,rfl⟩
 ·simp[hsz]
 ·simp
 ·obtain⟨sl,q2⟩:=hs.2.2 b o q
  exact⟨sl,keep b _ (nrec b o q n) q2⟩
theorem note_first {oe:Obj}{vs:Array Value}(hfr:A.frames=some (env::outer))(hl:s.heap.FunFrames B (env::outer))(hf:env.frame=some L)(he:s.heap.get? e=some oe)(hkb:B.StaysIn s.heap)(hen:B.get? e=none)
  (hc:oe.cls=C) (hdd:oe.dict=d) (hd:oe.data=.fields vs) (h1:vs[1]?=some .none) (h:∀h',Fly B (env::outer) e C d (rawInt L) h'→s.heap.UpToSlots h'→Q () { s with heap:=h' }):wpAny M A (noteFrame (.ref e) env) Q E s:=by
 unfold noteFrame
 simp only[hf]
 refine wpAny_bind (wpAny_field he hd h1 ?_)
 rw[if_neg (by decide)]
 exact note_core hfr hl hf he hkb hen hc hdd hd (Array.getElem?_eq_some_iff.mp h1).1 h
theorem note_next (hfr:A.frames=some (env::outer))(hf:env.frame=some L)(x:Fly B (env::outer) e C d .none s.heap)(h:∀h',Fly B (env::outer) e C d (rawInt L) h'→s.heap.UpToSlots h'→Q () { s with heap:=h' }):
  wpAny M A (noteFrame (.ref e) env) Q E s:=by
 obtain⟨hkb,hen,hl,oe,vs,T,oT,ts,he,hc,hdd,hd,h1,hnT,hTe,hT,hdT,h3⟩:=x
 unfold noteFrame
 simp only[hf]
 refine wpAny_bind (wpAny_field he hd h1 ?_)
 rw[if_pos (show (Value.ref T != Value.none)=true from by simp)]
 refine wpAny_bind (wpAny_field hT hdT h3 ?_)
 rw[if_neg (show ¬((Value.none == rawInt L)=true) from by simp[rawInt])]
 refine wpAny_bind (wpAny_setField hT hdT (Array.getElem?_eq_some_iff.mp h3).1 ?_)
 have oth:∀b,b≠T→(s.heap.update T (Obj.mapFields (·.setIfInBounds 3 Value.none))).get? b=s.heap.get? b:=fun b hb=>Heap.get?_update_other _ _ (Ne.symm hb)
 have nrec:∀b o,s.heap.get? b=some o→(∀vs,o.data≠.fields vs)→b≠T:=fun b o q n z=>by
  rw[z,hT]at q
  cases q
  exact n ts hdT
 refine note_core (s:={ s with heap:=s.heap.update T (Obj.mapFields (·.setIfInBounds 3 Value.none)) }) hfr (hl.of_keeps fun b o q n=>⟨o,(oth b (nrec b o q n)).trans q,rfl⟩) hf ((oth e (Ne.symm hTe)).trans he)
  (fun b o q=>(oth b fun z=>by rw[z,hnT]at q;cases q).trans (hkb b o q)) hen hc hdd hd (Array.getElem?_eq_some_iff.mp h1).1 fun h' y u=>h h' y fun b o q n=>u b o ((oth b (nrec b o q n)).trans q) n
theorem flight_none {l:List Env}{fl:Value}(x:Fly B l e C d fl s.heap)(h:∀h',Fly B l e C d .none h'→s.heap.UpToSlots h'→Q () { s with heap:=h' }):wpAny M A (setFlight (.ref e) none) Q E s:=by
 obtain⟨hkb,hen,hl,oe,vs,T,oT,ts,he,hc,hdd,hd,h1,hnT,hTe,hT,hdT,h3⟩:=x
 have hz:3<ts.size:=(Array.getElem?_eq_some_iff.mp h3).1
 have oth:∀b,b≠T→(s.heap.update T (Obj.mapFields (·.setIfInBounds 3 ((none:Option Addr).elim Value.none fun f=>rawInt f)))).get? b=s.heap.get? b:=fun b hb=>Heap.get?_update_other _ _ (Ne.symm hb)
 have nrec:∀b o,s.heap.get? b=some o→(∀vs,o.data≠.fields vs)→b≠T:=fun b o q n z=>by
  rw[z,hT]at q
  cases q
  exact n ts hdT
 unfold setFlight
 refine wpAny_bind (wpAny_field he hd h1 ?_)
 rw[if_pos (show (Value.ref T != Value.none)=true from by simp)]
 refine wpAny_setField hT hdT hz (h _ ⟨fun b o q=>(oth b fun z=>by rw[z,hnT]at q;cases q).trans (hkb b o q),hen,hl.of_keeps fun b o q n=>⟨o,(oth b (nrec b o q n)).trans q,rfl⟩,oe,vs,T,_,_,(oth e (Ne.symm hTe)).trans he,hc,hdd,hd,h1,hnT,hTe,
  Heap.get?_update_self _ hT (Obj.isFreed_of_fields (Obj.data_mapFields hdT _)),Obj.data_mapFields hdT _,by simp[hz]⟩ fun b o q n=>⟨o.slots,(oth b (nrec b o q n)).trans q⟩)
theorem Fly.pop {h:Heap}{fl:Value}(x:Fly B (env::outer) e C d fl h):Fly B outer e C d fl h:=⟨x.st,x.ne,x.fr.2.2,x.tr⟩
theorem leave_first {oe:Obj}{vs:Array Value}(hfr:A.frames=some (env::outer))(hl:s.heap.FunFrames B (env::outer))(hf:env.frame=some L)(he:s.heap.get? e=some oe)(hkb:B.StaysIn s.heap)(hen:B.get? e=none)
  (hc:oe.cls=C) (hdd:oe.dict=d) (hd:oe.data=.fields vs) (h1:vs[1]?=some .none) (h:∀h',Fly B outer e C d .none h'→s.heap.UpToSlots h'→Q () { s with heap:=h' }):wpAny M A (leaving env (.ref e)) Q E s:=by
 unfold leaving
 refine wpAny_bind (note_first hfr hl hf he hkb hen hc hdd hd h1 fun h1 x1 u1=>flight_none (s:={ s with heap:=h1 }) x1 fun h2 x2 u2=>h h2 x2.pop (u1.trans u2))
theorem leave_next (hfr:A.frames=some (env::outer))(hf:env.frame=some L)(x:Fly B (env::outer) e C d .none s.heap)(h:∀h',Fly B outer e C d .none h'→s.heap.UpToSlots h'→Q () { s with heap:=h' }):wpAny M A (leaving env (.ref e)) Q E s:=by
 unfold leaving
 refine wpAny_bind (note_next hfr hf x fun h1 x1 u1=>flight_none (s:={ s with heap:=h1 }) x1 fun h2 x2 u2=>h h2 x2.pop (u1.trans u2))
end
end L2
namespace L2
open PySem PySem.Spec PyProof.Rows
open PySem.W (Frag findIn typeIn mroIn clsIn InstAt Looks)
def xr (a C:Addr)(d:Option Addr):HO:=.ext fun h=>∃(o:Obj) (vs:Array Value),h.get? a=some o∧o.cls=.ref C∧o.dict=d∧o.data=.fields vs
theorem xr_ok {P:Program}{w:World}{H:Hp}{h:Heap}{e C:Addr}{d:Option Addr}{o:Obj}{vs:Array Value}(h1:h.get? e=some o)(h2:o.cls=.ref C)(h3:o.dict=d)(h4:o.data=.fields vs):ObjOk P w H h e (xr e C d):=
 ⟨⟨o,vs,h1,h2,h3,h4⟩,⟨o,h1⟩,fun g1 g2 ⟨o',vs',q1,q⟩ k=>⟨o',vs',k _ q1,q⟩⟩
inductive XAny (H:Hp) (e C:Addr):List (Str×V)→Prop where
 | un {fs:List (Str×V)}:XAt H e C fs→XAny H e C fs
 | bare:H e=some (xr e C none)→XAny H e C []
 | full {d:Addr} {fs:List (Str×V)}:H e=some (xr e C (some d))→H d=some (xdO d fs)→d≠e→XAny H e C fs
theorem XAny.same {H H':Hp}{e C:Addr}{fs:List (Str×V)}(x:XAny H e C fs)(s:Same H H'):XAny H' e C fs:=by
 cases x with
 | un h=>exact .un (h.same s)
 | bare h=>exact .bare (s _ _ h)
 | full h1 h2 h3=>exact .full (s _ _ h1) (s _ _ h2) h3
section
variable {M:Model}{A:Around}{E:Value→Shared→Prop}{s:Shared}{env:Env}
theorem raise_obj {x:Sem Value}{Q:Flow→Shared→Prop}(hh:A.handled=none)
  (h:wpAny M A x (fun v s₁=>∃(e t:Addr) (od:Option Addr) (sl:Array (Option Value)) (C:Addr) (nm q:Str) (N:Addr) (bs bm:List Value) (hdct:Bool) (sn:List Str) (sub:List Value) (ab:Bool) (col:Option Bool) (dd:Option Addr) (k0 k1 k2 k3 k5:Option Value) (newId:String),v=.ref e∧bm.contains (.type "BaseException")=true ∧
   s₁.heap.get? C=some (excClassObj nm q C N bs bm hdct sn sub ab col dd k0 k1 k2 k3 k5 newId)∧s₁.heap.get? e=some { cls:=.ref C,dict:=od,data:=.fields #[.ref t,.none,.none,.none,.bool false,.none],slots:=sl }∧E (.ref e) s₁) E s):wpAny M A (raiseStmt env (some x) none) Q E s:=by
 unfold raiseStmt
 refine wpAny_bind (wpAny_mono h (fun v s₁ h₁=>?_) fun _ _ x=>x)
 obtain⟨e,t,od,sl,C,nm,q,N,bs,bm,hdct,sn,sub,ab,col,dd,k0,k1,k2,k3,k5,newId,rfl,hbase,hC,he,hE⟩:=h₁
 have hcB:(Value.ref C::bm).contains (.type "BaseException")=true:=by rw[List.contains_cons,hbase,Bool.or_true]
 obtain⟨hp,g,d,tk,os⟩:=s₁
 repeat (first | with_reducible refine wpAny_loadPart_at he ?_ | with_reducible refine wpAny_loadPart_at hC ?_ | (with_reducible refine wpAny_isSubtype_exc hC ?_;rw[hcB]) | wp_step)
 exact wpAny_raiseNew_none hh hE
end
def CXr (P:Program)(w:World):CXT:=fun outer H s E ev s'=>∃(e C:Addr) (d:Option Addr) (H':Hp) (h1 B:Heap),ev=.ref e∧s'.os=s.os∧AllBare s'.gens∧Un (frs outer) [] H H' s.heap h1∧HOk P w H' h1∧H' e=some (xr e C d) ∧
 (∀b o,h1.get? b=some o→b≠e→((∃u,H' b=some u)∨((∃o',s.heap.get? b=some o')∧b∉frs outer))→B.get? b=some o)∧Fly B outer e (.ref C) d .none s'.heap∧h1.UpToSlots s'.heap∧E (.ref C) (some e) H'
def Raises (X:Cx)(Ex:XK):Prop:=∀(pins:List (Addr×Obj)) (σ:St) (H:Hp) (s:Shared) (e C:Addr) (d:Option Addr),Inv X pins σ H s→H e=some (xo e C d)→Ex (.ref C) (some e) (upd H e (xr e C d))→X.xe (.ref e) s
theorem Inv.raised {X:Cx}{pins:List (Addr×Obj)}{σ:St}{H:Hp}{s:Shared}{e C:Addr}{d:Option Addr}(I:Inv X pins σ H s)(h:H e=some (xo e C d)):Inv X pins σ (upd H e (xr e C d)) s:=by
 obtain⟨o,t,h1,h2,h3,h4⟩:=xo_obj I h
 exact I.write (x:=e) (e:=e) (o:=xr e C d) (h':=s.heap) (t':=s.toks) (by rw[h];exact trivial) (.inl rfl) (fun b u _ q=>q) ⟨o,h1⟩ (xr_ok h1 h2 h3 h4)
theorem hide_of {h:Heap}{as:List Addr}{b:Addr}{o:Obj}(e:(PySem.W.hideAll h as).get? b=some o):h.get? b=some o:=PySem.W.of_hideAll _ e
theorem cx_raises {P:Program}{w:World}{K:Frag}{mg:Str→Option Value}{base:Heap}{N:List Str}{qual:Str}{scope:Scope}{f:Addr}{cd:Value}{A:Around}{outer:List Env}{s0:Shared}{H0:Hp}{E:XK}:
  Raises (cxOf (CXr P w) P w K mg base N qual scope f cd A outer s0 H0 E) E:=by
 intro pins σ H s e C d I he hE
 obtain⟨o,t,h1,h2,h3,h4⟩:=xo_obj I he
 have J:=I.raised he
 generalize hX:cxOf (CXr P w) P w K mg base N qual scope f cd A outer s0 H0 E=X at I J ⊢
 have eA:X.A=A.deeper (envOfC qual scope s0.heap.objs.size f cd):=by rw[←hX];rfl
 have eS:X.stack=envOfC qual scope s0.heap.objs.size f cd::outer:=by rw[←hX];rfl
 have eF:X.fs=frs outer:=by rw[←hX];rfl
 have e0:X.s₀=s0:=by rw[←hX];rfl
 have eH:X.H₀=H0:=by rw[←hX];rfl
 have eX:X.ex=[]:=by rw[←hX];rfl
 have eL:X.env=envOfC qual scope s0.heap.objs.size f cd:=by rw[←hX];rfl
 have ePr:X.prog=P:=by rw[←hX];rfl
 have eW:X.w=w:=by rw[←hX];rfl
 have hxe:∀ev s',wpAny (model P w) (A.deeper (envOfC qual scope s0.heap.objs.size f cd)) (leaving (envOfC qual scope s0.heap.objs.size f cd) ev) (fun _ s''=>CXr P w outer H0 s0 E ev s'') (fun e' s''=>CXr P w outer H0 s0 E e' s'') s'→X.xe ev s':=by
  intro ev s' z;rw[←hX];exact z
 refine hxe _ _ ?_
 have hfr:(A.deeper (envOfC qual scope s0.heap.objs.size f cd)).frames=some (envOfC qual scope s0.heap.objs.size f cd::outer):=by rw[←eA,←eS];exact I.ok.frames
 have stk:s.heap.FunFrames X.base X.stack:=I.stack
 have hin:∀env∈X.stack,∀a,env.frame=some a→a∈frs X.stack++[e]:=fun env henv a ha=>List.mem_append_left _ (List.mem_filterMap.mpr ⟨env,henv,ha⟩)
 have ff:=PySem.W.funFrames_hide (as:=frs X.stack++[e]) stk hin
 rw[eS]at ff
 have stays:(PySem.W.hideAll s.heap (frs (envOfC qual scope s0.heap.objs.size f cd::outer)++[e])).StaysIn s.heap:=fun b o q=>hide_of q
 refine leave_first (B:=PySem.W.hideAll s.heap (frs (envOfC qual scope s0.heap.objs.size f cd::outer)++[e])) (L:=s0.heap.objs.size) hfr ff rfl h1 stays (PySem.W.hideAll_none _ (by simp)) h2 h3 h4 (by simp) fun h' fl up=>?_
 have os:s.os=s0.os:=by rw[←e0];exact I.os
 have un:Un (frs outer) [] H0 (upd H e (xr e C d)) s0.heap s.heap:=by
  have:=J.base
  rwa [eF,eX,eH,e0]at this
 have ok:HOk P w (upd H e (xr e C d)) s.heap:=by
  have:=J.hok
  rwa [ePr,eW]at this
 refine⟨e,C,d,upd H e (xr e C d),s.heap,_,rfl,os,I.bare,un,ok,upd_same,fun b o hb hne hc=>?_,fl,up,hE⟩
 refine PySem.W.hideAll_get _ hb fun z=>?_
 rcases List.mem_append.mp z with z | z
 ·have z':b∈frs X.stack:=by rw[eS];exact z
  rcases hc with⟨u,hu⟩|⟨⟨o',ho'⟩,hn⟩
  ·rw[J.stkFree b z']at hu;cases hu
  ·rcases List.mem_cons.mp (I.stkSub b z') with q | q
   ·rw[q,eL]at ho'
    exact absurd (Heap.lt_size ho') (Nat.lt_irrefl _)
   ·rw[eF]at q;exact hn q
 ·exact hne (by simpa using z)
def tRaise (K:Frag)(Ex:XK)(te:TE):TS:=fun _ σ H=>te σ H fun v H1=>∃e C d,v=.ref e∧H1 e=some (xo e C d)∧Xm K C∧Ex (.ref C) (some e) (upd H1 e (xr e C d))
theorem ps_raise {X:Cx}{Ex:XK}{e:Expr}{te:TE}{pos:Pos}(hR:Raises X Ex)(hc:X.calm=true)(he:PE X e te):PS X (.Raise (some e) none pos) (tRaise X.K Ex te):=by
 intro pins s σ H D I h
 rw[arm_exec_Raise]
 show wpAny _ X.A (do standAt pos;raiseStmt X.env (some (do let v ←eval e X.env;standAt pos;pure v)) none) _ _ s
 refine wpAny_bind (wpAny_standAt ?_)
 refine raise_obj (I.ok.hd hc) (wpAny_bind (thn (he pins s σ H _ I h) fun v s1 ⟨x,H1,I1,r1,a,C,d,ex,hx,m,q⟩=>wpAny_bind (wpAny_standAt (wpAny_pure ?_))))
 subst ex
 obtain rfl:v=Value.ref a:=r1
 obtain⟨o,t,h1,h2,h3,h4⟩:=xo_obj I1 hx
 obtain⟨nm,q',N,bs,bm,hdct,sn,sub,ab,col,dd,k0,k1,k2,k3,k5,hl,hxm⟩:=m.parts
 obtain⟨oc,odi,oda,osl⟩:=o
 dsimp only at h2 h3 h4
 subst h2 h3 h4
 have hb:(Value.ref C::bm).contains (.type "BaseException")=true:=xmro_has (by decide +kernel) hxm
 rw[List.contains_cons]at hb
 refine⟨a,t,_,_,C,nm,q',N,bs,bm,hdct,sn,sub,ab,col,dd,k0,k1,k2,k3,k5,_,rfl,?_,I1.kIn _ _ hl,h1,hR pins σ H1 s1 a C _ I1 hx q⟩
 have z:(Value.type "BaseException" == Value.ref C)=false:=rfl
 rw[z,Bool.false_or]at hb
 exact hb
section
variable {P:Program}{w:World}{K:Frag}{mg:Str→Option Value}{base:Heap}
theorem Fun.okX {x qual:Str}{st:Stmt}{f:Addr}{fd:FuncData}{N ps:List Str}{k:Nat}{sp:Sp}(F:Fun K x qual st f fd)(S:FnScope N ps (defScope st))(len:∀vs H Q E,sp vs H Q E→vs.length=ps.length)
  (hbody:∀(cdv:Value) (A:Around) (outer:List Env) (s:Shared) (H:Hp) (vs:List V) (Q:VK) (E:XK),Room k (A.deeper (envOfC qual (defScope st) s.heap.objs.size f cdv))→sp vs H Q E →
   ∃t,PSs (cxOf (CXr P w) P w K mg base N qual (defScope st) f cdv A outer s H E) (defBody st) t∧t { nx:=fun _ H'=>Q .non H',rt:=Q } (start N vs) H):FnOk P w K mg base (CXr P w) (k+1) f fd ps sp:=by
 obtain⟨oc,od,kV,doc,pm,an,cdv,ct,osl,rfl,lk,hcd⟩:=F.ex
 exact fn_of lk hcd S len fun A outer s H vs Q E hr hsp=>hbody cdv A outer s H vs Q E hr hsp
end
abbrev TX:=St→Hp→VK→XK→Prop
def PEx (X:Cx)(e:Expr)(t:TX):Prop:=∀(pins:List (Addr×Obj)) (s:Shared) (σ:St) (H:Hp) (Q:VK) (E:XK),Inv X pins σ H s→t σ H Q E →
 wpAny (model X.prog X.w) X.A (eval e X.env) (EP X pins σ Q) (fun ev s'=>∃H2 s2,Inv X pins σ H2 s2∧CXr X.prog X.w X.stack H2 s2 E ev s') s
abbrev TSx:=Ends→(St→XK)→St→Hp→Prop
def XH (X:Cx)(pins:List (Addr×Obj))(Ex:St→XK)(ev:Value)(s':Shared):Prop:=∃σ' H2 s2,Inv X pins σ' H2 s2∧CXr X.prog X.w X.stack H2 s2 (Ex σ') ev s'
def PSx (X:Cx)(st:Stmt)(t:TSx):Prop:=∀(pins:List (Addr×Obj)) (s:Shared) (σ:St) (H:Hp) (D:Ends) (Ex:St→XK),Inv X pins σ H s→t D Ex σ H→wpAny (model X.prog X.w) X.A (exec st X.env) (SP X pins D) (XH X pins Ex) s
def PSsx (X:Cx)(st:List Stmt)(t:TSx):Prop:=∀(pins:List (Addr×Obj)) (s:Shared) (σ:St) (H:Hp) (D:Ends) (Ex:St→XK),Inv X pins σ H s→t D Ex σ H→wpAny (model X.prog X.w) X.A (execs st X.env) (SP X pins D) (XH X pins Ex) s
section
variable {X:Cx}{CX:CXT}{k:Nat}{f C:Addr}{fd:FuncData}{ps:List Str}{sp:Sp}{dvs:List V}{ds:List Value}{x m:Str}{p pos apos:Pos}{e o:Expr}{es:List Expr}{ta:TE}{t:TA}
theorem run_fnx {pins:List (Addr×Obj)}{σ:St}{H:Hp}{s:Shared}{Q:VK}{E:XK}{us:List Value}{vs:List V}(F:FnOk X.prog X.w X.K X.mg X.base (CXr X.prog X.w) k f fd ps sp)(hr:Room k X.A)(hb:Binds X.K fd ps ds)(hd:Vals dvs ds)
  (I:Inv X pins σ H s) (r:Vals vs us) (h:sp (vs++dvs) H Q E):wpAny (model X.prog X.w) X.A (call (.ref f) us) (EP X pins σ Q) (fun ev s'=>∃H2 s2,Inv X pins σ H2 s2∧CXr X.prog X.w X.stack H2 s2 E ev s') s:=by
 have r2:Vals (vs++dvs) (us++ds):=r.append hd
 have hl:(us++ds).length=ps.length:=by rw[←r2.length];exact F.len _ _ _ _ h
 refine wpAny_call (codeAny_mono (F.run X.A X.stack s H ⟨us,[]⟩ (us++ds) (vs++dvs) Q E hr I.env0 (hb s us I.kIn hl) r2 h) fun r s' hq=>?_)
 cases r with
 | error e=>exact⟨H,s,I,hq⟩
 | ok fl=>
  cases fl with
  | ret u=>exact I.after hq
  | next=>exact False.elim hq
  | brk=>exact False.elim hq
  | cont=>exact False.elim hq
def tCallx (sp:Sp)(dvs:List V)(t:TA):TX:=fun σ H Q E=>t σ H fun vs H1=>sp (vs++dvs) H1 Q E
def sSetx (i:Nat)(te:TX):TSx:=fun D Ex σ H=>te σ H (fun y H1=>D.nx (σ.set i (some y)) H1) (Ex σ)
theorem psx_set {i:Nat}{te:TX}{pos':Pos}(hN:X.N.Nodup)(hi:X.N[i]?=some x)(hx:Loc X.env.scope x)(he:PEx X e te)(hs:swapsWith e (some (.Name x pos')) pos.line X.env=pure false:=by rfl)(hf:X.fn x=true∨X.env.scope.names.lookup x=some .local:=by first | exact .inl rfl | exact .inr rfl | assumption):
  PSx X (.Assign [.Name x pos'] e pos) (sSetx i te):=by
 intro pins s σ H D Ex I h
 refine wpAny_Assign_Name (wpAny_mono (he pins s σ H _ _ I h) (fun v s1 ⟨y,H1,I1,r1,q1⟩=>?_) fun ev s' ⟨H2,s2,I2,q⟩=>⟨σ,H2,s2,I2,q⟩) hs
 exact store_ok I1 hN hi hx r1 (fun s2 I2=>⟨_,H1,I2,q1⟩) hf
def sExprx (te:TX):TSx:=fun D Ex σ H=>te σ H (fun _ H1=>D.nx σ H1) (Ex σ)
theorem psx_expr {te:TX}(he:PEx X e te)(hs:swapsWith e none pos.line X.env=pure false:=by rfl):PSx X (.Expr e pos) (sExprx te):=by
 intro pins s σ H D Ex I h
 exact wpAny_Expr_any (wpAny_mono (he pins s σ H _ _ I h) (fun v s1 ⟨y,H1,I1,r1,q1⟩=>⟨σ,H1,I1,q1⟩) fun ev s' ⟨H2,s2,I2,q⟩=>⟨σ,H2,s2,I2,q⟩) I.quiet hs
theorem pssx_one {st:Stmt}{t:TSx}(h1:PSx X st t):PSsx X [st] t:=by
 intro pins s σ H D Ex I h
 refine wpAny_execs_cons (thn (h1 pins s σ H D Ex I h) fun f s1 q=>?_)
 cases f with
 | next=>exact wpAny_execs_nil q
 | ret v=>exact q
 | brk=>exact q
 | cont=>exact q
def sIfx (c:TT)(t u:TSx):TSx:=fun D Ex σ H=>c σ H fun b H1=>if b=true then t D Ex σ H1 else u D Ex σ H1
end
section
variable {X:Cx}{pins:List (Addr×Obj)}{σ:St}{H H':Hp}{s s1:Shared}{e C:Addr}{d:Option Addr}{h1 h5 B:Heap}
theorem caught_inv (I:Inv X pins σ H s)(os:s1.os=s.os)(bare:AllBare s1.gens)(un:Un (frs X.stack) [] H H' s.heap h1)(ok:HOk X.prog X.w H' h1)(he:H' e=some (xr e C d))
  (kept:∀b o,h1.get? b=some o→b≠e→((∃u,H' b=some u)∨((∃o',s.heap.get? b=some o')∧b∉frs X.stack))→B.get? b=some o) (fl:Fly B X.stack e (.ref C) d .none h5) (up:h1.UpToSlots h5):
  Inv X pins σ H' { s1 with heap:=h5 }:=by
 have ne:∀b o,s.heap.get? b=some o→H b=none→b≠e:=fun b o q n z=>by
  have:=un.free b o q n (by simp)
  rw[z,he]at this
  cases this
 have keep:∀b o,s.heap.get? b=some o→H b=none→b∉frs X.stack→h5.get? b=some o:=fun b o q n nf=>
  fl.st b o (kept b o (un.keep b o q n nf (by simp)) (ne b o q n) (.inr ⟨⟨o,q⟩,nf⟩))
 have slot:∀b o,s.heap.get? b=some o→H b=none→b∈frs X.stack→∃sl,h5.get? b=some { o with slots:=sl }:=fun b o q n hf=>by
  obtain⟨sl,q1⟩:=un.slot b o q n hf (by simp)
  obtain⟨_,o',ho',hnf⟩:=I.stack.mem hf
  rw[q]at ho'
  cases ho'
  obtain⟨sl2,q2⟩:=up b _ q1 hnf
  exact⟨sl2,q2⟩
 have trk:∀c u,(∃v,H' c=some v)→h1.get? c=some u→c≠e→h5.get? c=some u:=fun c u hv q n=>fl.st c u (kept c u q n (.inl hv))
 refine I.call' (s':={ s1 with heap:=h5 }) (ch:=[]) os ⟨fun b o q n nf _=>keep b o q n nf,fun b o q n hf _=>slot b o q n hf,fun b o q n _=>un.free b o q n (by simp),fun b o q _=>?_,un.tups,un.frzs,un.tbls⟩ (fun b ob hb=>?_) bare (fun b hb=>by cases hb)
 ·by_cases hbe:b=e
  ·obtain⟨oe,vs,T,oT,ts,h1,_⟩:=fl.tr
   exact⟨oe,by rw[hbe];exact h1⟩
  ·cases hH:H b with
   | none=>
    by_cases hf:b∈frs X.stack
    ·obtain⟨sl,q2⟩:=slot b o q hH hf
     exact⟨_,q2⟩
    ·exact⟨o,keep b o q hH hf⟩
   | some u=>
    obtain⟨o',q1⟩:=un.there b o q (by simp)
    by_cases hf:b∈frs X.stack
    ·rw[I.stkFree b hf]at hH;cases hH
    ·exact⟨o',fl.st b o' (kept b o' q1 hbe (.inr ⟨⟨o,q⟩,hf⟩))⟩
 ·by_cases hbe:b=e
  ·subst hbe
   rw[he]at hb
   cases hb
   obtain⟨oe,vs,T,oT,ts,g1,g2,g3,g4,_⟩:=fl.tr
   exact xr_ok g1 g2 g3 g4
  ·refine(ok b ob hb).stay (fun c u hc q=>trk c u ?_ q ?_) (fun _ q=>q) fun _ _ q=>q
   ·rcases hc with z | z
    ·exact⟨ob,z▸hb⟩
    ·exact⟨_,z⟩
   ·rintro rfl
    rcases hc with z | z
    ·exact hbe z.symm
    ·rw[he]at z;cases z
end
def sux (X:Cx)(e:Addr):Cx:={ X with A:=X.A.mark (some (.ref e)),calm:=false,xe:=fun _ _=>False }
section
variable {X:Cx}{pins:List (Addr×Obj)}{σ:St}{H:Hp}{s:Shared}{e:Addr}
theorem Inv.sux (I:Inv X pins σ H s)(e:Addr):Inv (L2.sux X e) pins σ H s:=
 ⟨⟨I.ok.mod,I.ok.kind,I.ok.glob,I.ok.blt,I.ok.above,I.ok.inj,I.ok.has,I.ok.cab,(fun z=>by cases z),I.ok.frames,I.ok.stk,I.ok.exf,I.ok.bs,I.ok.bsz,I.ok.noex,I.ok.exfs,I.ok.funs,I.ok.frf⟩,I.os,I.bare,I.base,I.loc,I.cell,I.free,I.freeC,I.pin,I.hok,I.len⟩
theorem Inv.unsux (hh:X.calm=true→X.A.handled=none)(I:Inv (L2.sux X e) pins σ H s):Inv X pins σ H s:=
 ⟨⟨I.ok.mod,I.ok.kind,I.ok.glob,I.ok.blt,I.ok.above,I.ok.inj,I.ok.has,I.ok.cab,hh,I.ok.frames,I.ok.stk,I.ok.exf,I.ok.bs,I.ok.bsz,I.ok.noex,I.ok.exfs,I.ok.funs,I.ok.frf⟩,I.os,I.bare,I.base,I.loc,I.cell,I.free,I.freeC,I.pin,I.hok,I.len⟩
theorem Inv.unbind {i:Nat}{x:Str}{v:Option Value}{m:Str→Option Value}{h':Heap}{t':Nat}(I:Inv X pins σ H s)(hN:X.N.Nodup)(hi:X.N[i]?=some x)(hm:∀(i:Nat) (x:Str) (v:V),X.N[i]?=some x→σ[i]?=some (some v)→Vis X.env.scope x→∃u,RelV v u∧Look X.env s.heap m x u)
  (hn':h'.Ns X.env.locals (fun y=>if y=x then v else m y)) (hs:Heap.SameBut X.env.locals s.heap h'):Inv X pins (σ.set i none) H { s with heap:=h',toks:=t' }:=by
 obtain⟨m0,hn,_⟩:=id I.loc
 obtain⟨oL,_,_,hoL,_⟩:=id hn
 have ab:∀b o,X.s₀.heap.get? b=some o→b≠X.env.locals:=fun b o e=>Nat.ne_of_lt (Nat.lt_of_lt_of_le (Heap.lt_size e) I.ok.above)
 refine⟨I.ok,I.os,I.bare,⟨fun b o e n hb hx=>(hs.2 b (ab b o e)).trans (I.base.keep b o e n hb hx),fun b o e n hb hx=>?_,I.base.free,fun b o e hx=>?_,I.base.tups,I.base.frzs,I.base.tbls⟩,⟨_,hn',fun j y v' e1 e2 e3=>?_⟩,fun y c e=>?_,I.free,I.freeC,fun p hp=>?_,fun b ob e=>?_,by simpa using I.len⟩
 ·obtain⟨sl,e1⟩:=I.base.slot b o e n hb hx
  exact⟨sl,(hs.2 b (ab b o e)).trans e1⟩
 ·obtain⟨o',e1⟩:=I.base.there b o e hx
  exact⟨o',(hs.2 b (ab b o e)).trans e1⟩
 ·have hj:j≠i:=by
   rintro rfl
   by_cases hl:j<σ.length
   ·rw[List.getElem?_set_self hl]at e2;cases e2
   ·rw[List.set_eq_of_length_le (Nat.le_of_not_lt hl),List.getElem?_eq_none (Nat.le_of_not_lt hl)]at e2;cases e2
  rw[List.getElem?_set_ne (Ne.symm hj)]at e2
  obtain⟨u',r',q⟩:=hm j y v' e1 e2 e3
  refine⟨u',r',?_⟩
  rcases q with⟨k,e⟩|⟨k,c,e,z⟩
  ·refine .inl ⟨k,?_⟩
   have:y≠x:=fun e=>hj (nodup_ix hN e1 (e▸hi))
   simp[this,e]
  ·exact .inr ⟨k,c,e,z.sameBut hs (I.cne y c e)⟩
 ·obtain⟨w',z⟩:=I.cell y c e
  exact⟨w',z.sameBut hs (I.cne y c e)⟩
 ·obtain⟨e,n,ne,nf,d⟩:=I.pin p hp
  exact⟨(hs.2 p.1 ne).trans e,n,ne,nf,d⟩
 ·refine(I.hok b ob e).stay (fun c w' hc q=>(hs.2 c ?_).trans q) (fun _ q=>q) fun _ _ q=>q
  rintro rfl
  rcases hc with z | hc
  ·rw[←z,I.free]at e;cases e
  ·rw[I.free]at hc;cases hc
end
abbrev TH:=Addr→Addr→Ends→St→Hp→Prop
def PHs (X:Cx)(hs:List ExceptHandler)(th:TH):Prop:=∀(pins:List (Addr×Obj)) (s:Shared) (σ:St) (H:Hp) (D:Ends) (e C:Addr) (d:Option Addr) (B:Heap),(∀h5,Fly B X.stack e (.ref C) d .none h5→s.heap.UpToSlots h5→Inv X pins σ H { s with heap:=h5 })→H e=some (xr e C d)→Fly B X.stack e (.ref C) d .none s.heap→th e C D σ H →
 wpAny (model X.prog X.w) X.A (handleBy (.ref e) X.env hs) (SP X pins D) X.xe s
def unE (i:Nat)(D:Ends):Ends:={ nx:=fun σ H=>D.nx (σ.set i none) H,rt:=D.rt,bk:=fun σ H=>D.bk (σ.set i none) H,ct:=fun σ H=>D.ct (σ.set i none) H }
def hAs (K:Frag)(C0:Addr)(i:Nat)(ts:TS)(tr:TH):TH:=fun e C D σ H=>∃b,PySem.W.exmOne K (.ref C) (.ref C0)=some b∧if b=true then ts (unE i D) (σ.set i (some (.ref e))) H else tr e C D σ H
def hNone:TH:=fun _ _ _ _ _=>False
theorem ph_nil {X:Cx}:PHs X [] hNone:=fun _ _ _ _ _ _ _ _ _ _ _ _ h=>h.elim
theorem looks_cls {M:Model}{h:Heap}{e C:Addr}{o:Obj}(h1:h.get? e=some o)(h2:o.cls=.ref C):Looks M h (typeOf (.ref e)) (.ref C):=by
 intro A Q E s k q
 have h1':=k _ _ h1
 obtain⟨hp,g,d,tk,os⟩:=s
 unfold typeOf
 repeat (first | (with_reducible refine wpAny_loadPart_at h1' ?_;rw[h2]) | wp_step)
 exact q
section
variable {X:Cx}{x n:Str}{np pos:Pos}{b₀:Stmt}{suite:List Stmt}{rest:List ExceptHandler}{ts:TS}{tr:TH}{C0:Addr}{i:Nat}
theorem ph_as (hc:X.calm=true→X.A.handled=none)(hg:Gl X x)(hm:X.mg x=some (.ref C0))(hN:X.N.Nodup)(hi:X.N[i]?=some n)(hl:X.env.scope.names.lookup n=some .local)(hs:∀e,PSs (sux X e) (b₀::suite) ts)(hr:PHs X rest tr)
  (hdb:(x == ("__debug__":Str))=false:=by decide):PHs X (.ExceptHandler (some (.Name x np)) (some n) (b₀::suite) pos::rest) (hAs X.K C0 i ts tr):=by
 intro pins s σ H D e C d B cv he fl h
 obtain⟨b,hb,h⟩:=h
 have I:Inv X pins σ H s:=cv s.heap fl (Heap.UpToSlots.refl _)
 have J:=I.sux e
 refine wpAny_handleBy_cons (codeAny_handlers_test (ld_glob (X:=sux X e) J hg hm ?_ hdb)) (by intro q;cases q)
 obtain⟨oe,vs,T,oT,tt,g1,g2,_⟩:=id fl.tr
 refine(PySem.W.exm_one (M:=model X.prog X.w) I.kIn (looks_cls g1 g2) hb).here ?_
 have hp:(X.env.scope.kind == .class || (X.env.scope.kind == .module&&X.env.locals != X.env.globals))=false:=by rw[I.ok.kind];rfl
 cases b with
 | false=>exact hr pins s σ H D e C d B cv he fl h
 | true=>
  refine codeAny_handlers_suite_as (flight_none fl fun h6 fl6 up6=>?_)
  have J6:=(cv h6 fl6 up6).sux e
  refine store_ok (X:=sux X e) (i:=i) J6 hN hi (.inl hl) (v:=.ref e) rfl (fun s7 I7=>?_) (.inr hl)
  refine wpAny_mono (hs e pins s7 _ H (unE i D) I7 h) (fun f s8 q=>?_) fun _ _ z=>False.elim z
  have goes:∀ {σ8:St} {H8:Hp} {Q:Unit→Shared→Prop} (I8:Inv (sux X e) pins σ8 H8 s8),(∀s9,Inv X pins (σ8.set i none) H8 s9→Q () s9)→wpAny (model X.prog X.w) X.A (do bindName X.env n .none;unbindBehindTheSuite X.env n pos) Q X.xe s8:=fun {σ8 H8 Q} I8 k=>by
   have I9:=I8.unsux hc
   obtain⟨m,hn,hm'⟩:=I9.loc
   exact wpAny_nameGoes_keeps hl hn hp fun h' v hn' sb=>k _ (I9.unbind hN hi hm' hn' sb)
  cases f with
  | next=>
   obtain⟨σ8,H8,I8,q8⟩:=q
   exact goes I8 fun s9 I9=>⟨_,H8,I9,q8⟩
  | brk=>
   obtain⟨σ8,H8,I8,q8⟩:=q
   exact goes I8 fun s9 I9=>⟨_,H8,I9,q8⟩
  | cont=>
   obtain⟨σ8,H8,I8,q8⟩:=q
   exact goes I8 fun s9 I9=>⟨_,H8,I9,q8⟩
  | ret u=>
   obtain⟨v,σ8,H8,I8,r8,q8⟩:=q
   exact goes I8 fun s9 I9=>⟨v,_,H8,I9,r8,q8⟩
def hPlain (K:Frag)(C0:Addr)(ts:TS)(tr:TH):TH:=fun e C D σ H=>∃b,PySem.W.exmOne K (.ref C) (.ref C0)=some b∧if b=true then ts D σ H else tr e C D σ H
def tTry (tb:TSx)(th:TH):TS:=fun D σ H=>tb D (fun σ' cls oe H'=>∃e C,cls=.ref C∧oe=some e∧th e C D σ' H') σ H
theorem ps_try {body:List Stmt}{h₀:ExceptHandler}{hs:List ExceptHandler}{tb:TSx}{th:TH}(hst:X.stack=X.env::X.outer)(hfr:X.env.frame=some X.env.locals)(hb:PSsx X body tb)(hh:PHs X (h₀::hs) th):
  PS X (.Try body (h₀::hs) [] [] pos) (tTry tb th):=by
 intro pins s σ H D I h
 refine wpAny_Try_except (wpAny_mono (hb pins s σ H D _ I h) (fun f s1 q=>?_) fun ev s1 q=>?_)
 ·cases f with
  | next=>exact wpAny_execs_nil q
  | ret v=>exact q
  | brk=>exact q
  | cont=>exact q
 ·obtain⟨σ',H2,s2,I2,e,C,d,H',h1,B,rfl,os,bare,un,ok,he,kept,fl,up,e',C',ec,ee,hth⟩:=q
  cases ec
  cases ee
  have fr:X.A.frames=some (X.env::X.outer):=by rw[←hst];exact I.ok.frames
  rw[hst]at fl
  refine note_next fr hfr fl fun h4 fl4 up4=>flight_none (s:={ s1 with heap:=h4 }) fl4 fun h5 fl5 up5=>?_
  rw[←hst]at fl5
  exact hh pins { s1 with heap:=h5 } σ' H' D e C d B (fun h6 fl6 up6=>caught_inv (s1:=s1) I2 os bare un ok he kept fl6 (up.trans (up4.trans (up5.trans up6)))) he fl5 hth
end
end L2
namespace L2
open PySem PySem.Spec PyProof.Rows
open PySem.W (Frag findIn specialIn typeIn mroIn clsIn subIn kitOne kitCls InstAt Looks)
section
variable {X:Cx}{pins:List (Addr×Obj)}{σ:St}{H:Hp}{s:Shared}{e C:Addr}{fs:List (Str×V)}{f:Str}{v:V}{A:Around}{E:Value→Shared→Prop}
theorem xr_obj {d:Option Addr}(I:Inv X pins σ H s)(h:H e=some (xr e C d)):∃(o:Obj) (vs:Array Value),s.heap.get? e=some o∧o.cls=.ref C∧o.dict=d∧o.data=.fields vs:=(I.hok e _ h).1
theorem XAny.inst (I:Inv X pins σ H s)(x:XAny H e C fs):∃(ox:Obj) (od:Option Obj),InstAt s.heap e ox C od∧∀name,∃r,(match od with | some o=>PySem.W.lookIn name o | none=>some none)=some r∧RelO (fs.lookup name) r:=by
 cases x with
 | un h=>exact h.inst I
 | bare h=>
  obtain⟨o,vs,h1,h2,h3,h4⟩:=xr_obj I h
  exact⟨o,none,⟨h1,h2,by unfold PySem.W.notCls;rw[h4],by rw[h3];trivial⟩,fun name=>⟨none,rfl,by trivial⟩⟩
 | @full d _ h h' hne=>
  obtain⟨o,vs,h1,h2,h3,h4⟩:=xr_obj I h
  obtain⟨⟨_,mA,hn,hr,_⟩,_⟩:=I.hok d _ h'
  obtain⟨od,hod,hl⟩:=lookIn_ns hn
  exact⟨o,some od,⟨h1,h2,by unfold PySem.W.notCls;rw[h4],by rw[h3];exact hod⟩,fun name=>⟨mA name,hl name,hr name⟩⟩
theorem xgetR {b:Bool}{Q:Value→Shared→Prop}(I:Inv X pins σ H s)(x:XAny H e C fs)(c:Xc X.K C)(n:NoAttr X.K C f)(l:fs.lookup f=some v)(h:∀u s',Inv X pins σ H s'→RelV v u→Q u s'):wpAny (model X.prog X.w) A (getAttr (.ref e) f b) Q E s:=by
 obtain⟨ox,od,J,hr⟩:=x.inst I
 obtain⟨r,hl,ro⟩:=hr f
 rw[l]at ro
 obtain⟨u,rfl,ru⟩:=RelO.some_of ro
 refine xget_value I.kIn J c ?_ (handed_of ru) (h u _ (I.tok _) ru)
 cases od with
 | none=>cases hl
 | some o=>exact PySem.W.findObj_own c.hd n rfl hl
end
def tXFldR (K:Frag)(ta:TE)(f:Str):TE:=fun σ H Q=>ta σ H fun x H1=>∃e C fs v,x=.ref e∧XAny H1 e C fs∧Xc K C∧NoAttr K C f∧fs.lookup f=some v∧Q v H1
theorem pe_xfldR {X:Cx}{K:Frag}{e:Expr}{f:Str}{pos:Pos}{ta:TE}(hK:X.K=K)(he:PE X e ta)(hb:attributeBase e f X.env (eval e X.env)=eval e X.env):PE X (.Attribute e f pos) (tXFldR K ta f):=by
 subst hK
 intro pins s σ H Q I h
 refine attr_of hb (thn (he pins s σ H _ I h) fun u s1 ⟨x,H1,I1,rx,a,C,fs,v,ex,xa,c,n,l,q⟩=>?_)
 subst ex
 obtain rfl:u=Value.ref a:=rx
 exact xgetR I1 xa c n l fun u' s2 I2 ru=>⟨v,H1,I2,ru,q⟩
inductive TyR (K:Frag) (H:Hp):V→Value→Prop where
 | ty {x:V} {t:Value} (h:TyX K H x t):TyR K H x t
 | exc {e C:Addr} {fs:List (Str×V)} (x:XAny H e C fs) (i:Xi K C):TyR K H (.ref e) (.ref C)
theorem call_isinstR {X:Cx}{K:Frag}(hK:X.K=K):CallR X (.builtin "isinstance") (fun xs H Q=>∃x c t k b,xs=[x,c]∧clsV c=some k∧TyR K H x t∧kitOne K t k=some b∧Q (.bl b) H):=by
 subst hK
 rintro pins s σ H xs us Q I r ⟨x,c,t,k,b,rfl,hk,ty,e,q⟩
 cases ty with
 | ty h=>exact call_isinst pins s σ H _ us Q I r ⟨x,c,t,k,b,rfl,hk,h,e,q⟩
 | exc xa i=>
  obtain⟨u,v,rfl,ru,rv⟩:=r.two
  have hv:v=k:=by
   cases c with
   | ref a=>cases hk;exact rv
   | ty n=>cases hk;exact rv
   | _=>cases hk
  subst hv
  cases ru
  obtain⟨ox,od,J,_⟩:=xa.inst I
  exact PySem.W.kia_one (kitx_exc i) I.kIn J e (fun z=>nomatch z) fun tk=>⟨.bl b,H,I.tok _,rfl,q⟩
theorem exm_ref {K:Frag} {C D:Addr} {m1 m2:List Value} {b:Bool} (c:ClsOk K C m1) (d:ClsOk K D m2) (hb:m2.contains (.type "BaseException")=true) (h:m1.contains (.ref D)=b):PySem.W.exmOne K (.ref C) (.ref D)=some b:=by
 obtain⟨cd,e1,e2⟩:=c.cd
 obtain⟨cd',e3,e4⟩:=d.cd
 have hs:PySem.W.subIn K (.ref D) (.type "BaseException")=some true:=by
  unfold PySem.W.subIn PySem.W.mroIn
  dsimp only
  rw[e3,Option.bind_some,e4,d.ne,hb]
  rfl
 unfold PySem.W.exmOne
 rw[if_pos (by rw[hs];rfl)]
 unfold PySem.W.kitCls
 dsimp only
 rw[e3,d.ty]
 simp only[Option.isSome_some,Bool.true_and,beq_self_eq_true,if_true]
 unfold PySem.W.subIn PySem.W.mroIn
 dsimp only
 rw[e1,Option.bind_some,e2,c.ne,h]
 rfl
end L2
namespace L2
open PySem PySem.Spec PyProof.Rows
open PySem.W (Frag)
theorem ObjOk.there {P:Program}{w:World}{H:Hp}{h:Heap}{a:Addr}:∀ {o:HO},ObjOk P w H h a o→∃u,h.get? a=some u
 | .lst _,x=>by obtain⟨_,_,_,_,e⟩:=x;exact⟨_,e⟩
 | .tup _,x=>by obtain⟨_,_,_,ob,e,_⟩:=x;exact⟨_,e⟩
 | .dK _,x=>by obtain⟨_,_,_,_,ob,_,_,e,_⟩:=x;exact⟨_,e⟩
 | .dT _,x=>by obtain⟨_,_,_,_,ob,_,_,e,_⟩:=x;exact⟨_,e⟩
 | .set _ _,x=>by obtain⟨ob,_,_,_,e,_⟩:=x;exact⟨_,e⟩
 | .ins _ _ _,x=>by obtain⟨_,_,_,e,_⟩:=x;exact⟨_,e⟩
 | .own _,x=>x
 | .xd _,x=>by obtain⟨_,⟨ob,_,_,e,_⟩,_⟩:=x;exact⟨_,e⟩
 | .met _ _,x=>⟨_,x⟩
 | .rng _ _,x=>by obtain⟨_,_,_,e⟩:=x;exact⟨_,e⟩
 | .frz _ _,x=>⟨_,x.1⟩
 | .tbl _,x=>⟨_,x⟩
 | .ext _,x=>x.2.1
theorem HOk.none_of {P:Program}{w:World}{H:Hp}{h:Heap}{a:Addr}(ok:HOk P w H h)(n:h.get? a=none):H a=none:=by
 cases q:H a with
 | none=>rfl
 | some o=>
  obtain⟨u,hu⟩:=(ok a o q).there
  rw[n]at hu
  cases hu
theorem Inv.laid2 {X:Cx}{pins:List (Addr×Obj)}{σ:St}{H:Hp}{s s':Shared}{a:Addr}{o:HO}(I:Inv X pins σ H s)(os:s'.os=s.os)(hg:s'.gens=s.gens)(k:∀b u,s.heap.get? b=some u→s'.heap.get? b=some u)(nw:s.heap.get? a=none)
  (new:ObjOk X.prog X.w (upd H a o) s'.heap a o):Inv X pins σ (upd H a o) s':=by
 have hn:=I.hok.none_of nw
 have ne:∀b u,s.heap.get? b=some u→b≠a:=fun b u q z=>by rw[z,nw]at q;cases q
 have neH:∀b u,H b=some u→b≠a:=fun b u q=>ne_of_none q hn
 refine I.call' (ch:=[]) os ⟨fun b u q _ _ _=>k b u q,fun b u q _ _ _=>⟨u.slots,k b u q⟩,fun b u q n _=>by rw[upd_ne (ne b u q)];exact n,fun b u q _=>⟨u,k b u q⟩,fun b xs q=>by rw[upd_ne (neH b _ q)];exact q,fun b u v q=>by rw[upd_ne (neH b _ q)];exact q,fun b ps q=>⟨#[],by rw[upd_ne (neH b _ q),Array.append_empty];exact q⟩⟩
  (fun b u q=>?_) (by rw[hg];exact I.bare) (fun b hb=>by cases hb)
 by_cases hb:b=a
 ·subst hb
  rw[upd_same]at q
  cases q
  exact new
 ·rw[upd_ne hb]at q
  exact(I.hok b u q).stay (fun c w' _ q=>k c w' q) (fun c q=>by rw[upd_ne (neH c _ q)];exact q) fun c xs q=>by rw[upd_ne (neH c _ q)];exact q
section
variable {X:Cx}
def signs (l:List Nat):List (List Nat):=l.map fun c=>[c]
theorem items_signs {l:List Nat}{acc:Array Value}(h:ItemsOf (SignAt ⟨l.toArray⟩) acc (⟨l.toArray⟩:Str).cps.size):Vals ((signs l).map tx) acc.toList:=by
 obtain⟨h1,h2⟩:=h
 have hl:(⟨l.toArray⟩:Str).cps.size=l.length:=by show l.toArray.size=_;simp
 rw[hl]at h1
 have gen:∀(l:List Nat) (us:List Value),us.length=l.length→(∀(j:Nat) (v:Value),us[j]?=some v→∃(c:Nat) (u:Tok),l[j]?=some c∧v=Value.str ⟨#[c]⟩ u)→Vals ((signs l).map tx) us:=by
  intro l
  induction l with
  | nil=>
   intro us hl _
   have:us=[]:=List.eq_nil_of_length_eq_zero hl
   subst this
   exact .nil
  | cons c l ih=>
   intro us hl h
   cases us with
   | nil=>cases hl
   | cons u us=>
    obtain⟨c',t,e,rfl⟩:=h 0 u rfl
    cases e
    refine .cons ⟨t,rfl⟩ (ih us (by simpa using hl) fun j v e=>h (j+1) v e)
 refine gen l acc.toList (by rw[Array.length_toList,h1]) fun j v e=>?_
 rw[Array.getElem?_toList]at e
 obtain⟨c,u,e1,e2⟩:=h2 j v e
 exact⟨c,u,by simpa using e1,e2⟩
theorem call_list_tx (hc:X.calm=true):CallR X (.type "list") (fun xs H Q=>∃l,xs=[tx l]∧l.length≤1000∧NewL ((signs l).map tx) H Q):=by
 rintro pins s σ H xs us Q I r ⟨l,rfl,hz,q⟩
 obtain⟨u,rfl,t,rfl⟩:=r.one
 have hl:(⟨l.toArray⟩:Str).cps.size=l.length:=by show l.toArray.size=_;simp
 refine call_list_str (I.ok.hd hc) _ t (fun h' tk acc c k e it=>?_) (by rw[hl];exact Nat.le_of_lt (small1000 hz))
 refine⟨.ref s.heap.objs.size,_,I.laid (t':=tk) k (Nat.le_refl _) ?_,rfl,q _ I.fresh⟩
 exact⟨by unfold signs;rw[List.length_map,List.length_map];exact Nat.le_of_lt (small1000 hz),acc.toList,c,items_signs it,by rw[Array.toArray_toList];exact e⟩
theorem call_allL (hc:X.calm=true):CallR X (.builtin "all") (fun xs H Q=>∃(a:Addr) (bs:List Bool),xs=[.ref a]∧H a=some (.lst (bs.map V.bl))∧Q (.bl (bs.all id)) H):=by
 rintro pins s σ H xs us Q I r ⟨a,bs,rfl,ha,q⟩
 obtain⟨u,rfl,ru⟩:=r.one
 cases ru
 obtain⟨_,its,n,r',hlen,e⟩:=I.lstM ha
 have hl:s.heap.IsList a its.toArray:=PySem.IsL.isList e
 have hne:a≠s.heap.objs.size:=Nat.ne_of_lt (Heap.lt_size e)
 refine call_all_walkS (wpAny_pyIter_list hl ?_)
 have hL:its.toArray.size=bs.length:=by rw[List.size_toArray,←r'.length,List.length_map]
 have W:=(Walks.list (prog:=X.prog) (w:=X.w) (A:=X.A.in1) (by simpa using I.ok.hd hc) s.heap.objs.size a hne its.toArray).toS
 refine⟨s.heap.objs.size,_,_,_,_,_,_,fun i=>bs.getD i true,rfl,W,⟨⟨_,Heap.get?_push_size _ rfl,rfl,rfl⟩,hl.push _⟩,?_,fun s' hm=>?_⟩
 ·intro i v s Q E hv hQ
  have e':its[i]?=some v:=by simpa using hv
  obtain⟨x,hx,rx⟩:=vals_at r' e'
  rw[List.getElem?_map]at hx
  cases hb:bs[i]? with
  | none=>rw[hb]at hx;cases hx
  | some b=>
   rw[hb]at hx
   cases hx
   obtain rfl:v=Value.bool b:=rx
   have:bs.getD i true=b:=by rw[List.getD_eq_getElem?_getD,hb];rfl
   have hQ':Q (bs.getD i true) s:=hQ
   rw[this]at hQ'
   exact wpAny_truthy_bool hQ'
 ·have ea:(List.range its.toArray.size).all (fun i=>bs.getD i true)=bs.all id:=by
   rw[hL]
   rw[Bool.eq_iff_iff,List.all_eq_true,List.all_eq_true]
   constructor
   ·intro h b hb
    obtain⟨i,hi,rfl⟩:=List.getElem_of_mem hb
    have:=h i (List.mem_range.mpr hi)
    rw[List.getD_eq_getElem?_getD,List.getElem?_eq_getElem hi]at this
    exact this
   ·intro h i hi
    have hi:=List.mem_range.mp hi
    rw[List.getD_eq_getElem?_getD,List.getElem?_eq_getElem hi]
    exact h _ (List.getElem_mem hi)
  rw[ea]
  have I2:Inv X pins σ H s':=I.call' (ch:=[]) hm.os (Un.kept fun b o q=>hm.heap b o (fun z=>?_) (Heap.get?_push_of_some _ q)) (I.hok.kept fun b o q=>hm.heap b o (fun z=>?_) (Heap.get?_push_of_some _ q)) (by rw[show s'.gens=s.gens from hm.gens];exact I.bare) (fun b hb=>by cases hb)
  ·exact⟨.bl _,H,I2,rfl,q⟩
  ·have z:b=s.heap.objs.size:=by simpa using z
   rw[z]at q;exact absurd (Heap.lt_size q) (Nat.lt_irrefl _)
  ·have z:b=s.heap.objs.size:=by simpa using z
   rw[z]at q;exact absurd (Heap.lt_size q) (Nat.lt_irrefl _)
def tset (P:Program)(w:World)(a:Addr)(ls:List (List Nat)):HO:=.ext fun h=>TxSet P w h a ls (!byTxt w)
theorem tset_ok {P:Program}{w:World}{H:Hp}{h:Heap}{a:Addr}{ls:List (List Nat)}(x:TxSet P w h a ls (!byTxt w)):ObjOk P w H h a (tset P w a ls):=by
 obtain⟨o,es,ep,t,ms,h1,r⟩:=id x
 exact⟨x,⟨o,h1⟩,fun g1 g2 y k=>y.keep k⟩
def ddl (ls:List (List Nat)):List (List Nat):=ls.foldl addT []
theorem dd_list {ls:List (List Nat)}:dd (fun i=>ls.getD i []) ls.length=ddl ls:=by
 unfold dd ddl
 congr 1
 apply List.ext_getElem
 ·simp
 ·intro n h1 h2
  simp[h2]
theorem call_set_tx (hc:X.calm=true):CallR X (.type "set") (fun xs H Q=>∃ls:List (List Nat),ls.length≤1000∧((∃l,xs=[tx l]∧ls=signs l)∨∃a,xs=[.ref a]∧SqL X.K H a (ls.map tx))∧∀p,H p=none→Q (.ref p) (upd H p (tset X.prog X.w p (ddl ls)))):=by
 rintro pins s σ H xs us Q I r ⟨ls,hz,hx,q⟩
 have hb:ls.length+1<scanBound:=by show _<4096;omega
 have fin:∀(h':Heap) (tk:Nat),TxSet X.prog X.w h' s.heap.objs.size (ddl ls) (!byTxt X.w)→(∀b o,s.heap.get? b=some o→h'.get? b=some o)→EP X pins σ Q (.ref s.heap.objs.size) { s with heap:=h',toks:=tk }:=fun h' tk hS k=>
  ⟨.ref s.heap.objs.size,_,I.laid (t':=tk) k (Nat.le_refl _) (tset_ok hS),rfl,q _ I.fresh⟩
 rcases hx with⟨l,rfl,rfl⟩|⟨a,rfl,hq⟩
 ·obtain⟨u,rfl,t,rfl⟩:=r.one
  have hl:(signs l).length=l.length:=by unfold signs;rw[List.length_map]
  have e0:dd (fun i=>[l.getD i 0]) l.length=ddl (signs l):=by
   unfold dd ddl signs
   congr 1
   apply List.ext_getElem
   ·simp
   ·intro n h1 h2
    have:n<l.length:=by simpa using h2
    simp[this]
  refine set_call (I.ok.hd hc) (walked_text (prog:=X.prog) (w:=X.w) (s:=s) (l:=l) (t:=t)) F.sub_str_set F.sub_str_frozenset (by decide) (by rw[←hl];exact hb) fun h' tk hS k _=>?_
  rw[e0]at hS
  exact fin h' tk hS k
 ·obtain⟨u,rfl,ru⟩:=r.one
  cases ru
  obtain⟨its,rv,p,_⟩:=I.list hq
  refine set_call (I.ok.hd hc) (walked_list (prog:=X.prog) (w:=X.w) (s:=s) p.isList rv) F.sub_list_set F.sub_list_frozenset (by decide) hb fun h' tk hS k _=>?_
  rw[dd_list]at hS
  exact fin h' tk hS k
theorem call_sorted_set (hc:X.calm=true):CallR X (.builtin "sorted") (fun xs H Q=>∃a ls,xs=[.ref a]∧H a=some (tset X.prog X.w a ls)∧ls.length<64∧NewL ((sortT ls).map tx) H Q):=by
 rintro pins s σ H xs us Q I r ⟨a,ls,rfl,ha,h64,q⟩
 obtain⟨u,rfl,ru⟩:=r.one
 cases ru
 have hS:TxSet X.prog X.w s.heap a ls (!byTxt X.w):=(I.hok a _ ha).1
 refine sorted_set (I.ok.hd hc) hS h64 fun s' b us e nw k hg ho hb rv=>?_
 have hl:(sortT ls).length≤sizeLine:=by rw[(sortT_perm ls).length_eq];exact Nat.le_trans (Nat.le_of_lt h64) (by rw[sizeLine_eq];decide)
 exact⟨.ref b,_,I.laid2 (o:=.lst ((sortT ls).map tx)) ho hg k nw ⟨by rw[List.length_map];exact hl,us,e,rv,hb⟩,rfl,q b (I.hok.none_of nw)⟩
end
theorem pe_strT {X:Cx}{x:Str}{l:List Nat}{j:Nat}{pos:Pos}(h:x=⟨l.toArray⟩):PE X (.Constant (.str x) j pos) (tC (tx l)):=by subst h;exact pe_str
theorem pe_globS {X:Cx} {x y:Str} {pos:Pos} (hg:Gl X x) (hm:∃t,X.mg x=some (.str y t)) (hd:(x == ("__debug__":Str))=false:=by decide):PE X (.Name x pos) (tC (.str y)):=by
 obtain⟨t,h⟩:=hm
 exact pe_glob hg h ⟨t,rfl⟩ hd
theorem pe_globI {X:Cx} {x:Str} {y:Int} {pos:Pos} (hg:Gl X x) (hm:∃t,X.mg x=some (.int y t)) (hd:(x == ("__debug__":Str))=false:=by decide):PE X (.Name x pos) (tC (.int y)):=by
 obtain⟨t,h⟩:=hm
 exact pe_glob hg h ⟨t,rfl⟩ hd
section
variable {CX:CXT}{P:Program}{w:World}{K:PySem.W.Frag}{mg:Str→Option Value}{base:Heap}{N:List Str}{qual:Str}{scope:Scope}{f:Addr}{cd:Value}{A:Around}{outer:List Env}{s:Shared}{H:Hp}{E:XK}{X:Cx}{e:Addr}
theorem cxPr:(cxOf CX P w K mg base N qual scope f cd A outer s H E).prog=P:=rfl
theorem cxWo:(cxOf CX P w K mg base N qual scope f cd A outer s H E).w=w:=rfl
theorem suxK:(sux X e).K=X.K:=rfl
theorem suxPr:(sux X e).prog=X.prog:=rfl
theorem suxWo:(sux X e).w=X.w:=rfl
end
end L2
namespace L2
open PySem PySem.Spec PyProof.Rows
open PySem.W (Frag KeqHits)
theorem hits_self {κ:Type}[DecidableEq κ]{A:Around}{s:Shared}{kb:List (κ×Value)}(nd:(kb.map (·.1)).Nodup):∀(r:List (κ×Value)),(∀x∈r,x∈kb)→KeqHits A s kb r true
 | [],_=>.nil
 | (k,v)::r,hm=>by
  have h1:valueAt kb k=some v:=by
   unfold valueAt
   have hin:=hm (k,v) List.mem_cons_self
   obtain⟨y,hy,e⟩:∃y,kb.find? (fun kv=>kv.1=k)=some y∧y=(k,v):=by
    clear hm
    induction kb with
    | nil=>cases hin
    | cons z kb ih=>
     rw[List.map_cons,List.nodup_cons]at nd
     rcases List.mem_cons.mp hin with e | e
     ·subst e;exact⟨_,by simp,rfl⟩
     ·have hz:¬z.1=k:=fun e'=>nd.1 (e'▸List.mem_map_of_mem (f:=(·.1)) e)
      obtain⟨y,hy,e2⟩:=ih nd.2 e
      exact⟨y,by rw[List.find?_cons_of_neg (by simpa using hz)];exact hy,e2⟩
   rw[hy,e];rfl
  exact .hit (e:=true) (b:=true) h1 (SeqAt.EqAt.same _) (hits_self nd r fun x hx=>hm x (List.mem_cons_of_mem _ hx))
def rEqS (K:Frag)(neg:Bool):R2:=fun x y H Q=>rEqD K neg x y H Q∨∃(a:Addr) (kvs:List (Key×V)),x=.ref a∧y=.ref a∧H a=some (.dK kvs)∧Q (.bl (!neg)) H
section
variable {X:Cx}{K:Frag}
theorem op_eqS (hK:X.K=K)(hu:X.A.units+64<cLine):OpR X (compareOp .Eq) (rEqS K false):=by
 subst hK
 intro pins s σ H x y v u Q I rx ry h
 rcases h with h | ⟨a,kvs,rfl,rfl,e,q⟩
 ·exact op_eqD hu pins s σ H x y v u Q I rx ry h
 ·cases rx;cases ry
  obtain⟨_,hm,vs,_,d⟩:=dk_of I.hok e
  have nd:(vs.map (·.1)).Nodup:=let ⟨_,_,_,_,_,_,_,_,n⟩:=d;n
  exact PySem.W.keq_eq hm hm d d (by omega) (fun _=>hits_self nd vs fun _ hx=>hx) ⟨.bl true,H,I,by simp;rfl,q⟩
end
end L2
namespace L2
open PySem PySem.Spec PyProof.Rows
open PySem.W (Frag)
theorem pass_on {P:Program}{w:World}{K:Frag}{mg:Str→Option Value}{base:Heap}{N:List Str}{qual:Str}{scope:Scope}{f:Addr}{cd:Value}{A:Around}{outer:List Env}{s0:Shared}{H0:Hp}{E:XK}:
  Passes (CXr P w) (cxOf (CXr P w) P w K mg base N qual scope f cd A outer s0 H0 E) E:=by
 intro pins σ H s ev s' I hx
 generalize hX:cxOf (CXr P w) P w K mg base N qual scope f cd A outer s0 H0 E=X at I hx ⊢
 have eA:X.A=A.deeper (envOfC qual scope s0.heap.objs.size f cd):=by rw[←hX];rfl
 have eS:X.stack=envOfC qual scope s0.heap.objs.size f cd::outer:=by rw[←hX];rfl
 have eF:X.fs=frs outer:=by rw[←hX];rfl
 have e0:X.s₀=s0:=by rw[←hX];rfl
 have eH:X.H₀=H0:=by rw[←hX];rfl
 have eX:X.ex=[]:=by rw[←hX];rfl
 have ePr:X.prog=P:=by rw[←hX];rfl
 have eW:X.w=w:=by rw[←hX];rfl
 have hxe:∀ev s',wpAny (model P w) (A.deeper (envOfC qual scope s0.heap.objs.size f cd)) (leaving (envOfC qual scope s0.heap.objs.size f cd) ev) (fun _ s''=>CXr P w outer H0 s0 E ev s'') (fun e' s''=>CXr P w outer H0 s0 E e' s'') s'→X.xe ev s':=by
  intro ev s' z;rw[←hX];exact z
 obtain⟨e,C,d,H',h1,B,rfl,hos,hbare,un,ok,he,kept,fl,up,hE⟩:=hx
 refine hxe _ _ ?_
 have hfr:(A.deeper (envOfC qual scope s0.heap.objs.size f cd)).frames=some (envOfC qual scope s0.heap.objs.size f cd::outer):=by rw[←eA,←eS];exact I.ok.frames
 have J:Inv X pins σ H' { s' with heap:=h1 }:=I.call' (s':={ s' with heap:=h1 }) (ch:=[]) hos un (by rw[ePr,eW];exact ok) hbare (fun b hb=>by cases hb)
 rw[eS]at fl
 refine leave_next hfr rfl fl fun h' fl' up'=>?_
 have os:s'.os=s0.os:=by rw[hos,←e0];exact I.os
 have un':Un (frs outer) [] H0 H' s0.heap h1:=by
  have:=J.base
  rwa [eF,eX,eH,e0]at this
 refine⟨e,C,d,H',h1,B,rfl,os,hbare,un',ok,he,fun b o hb hne hc=>?_,fl',up.trans up',hE⟩
 rcases hc with hu | ⟨⟨o',ho'⟩,hn⟩
 ·exact kept b o hb hne (.inl hu)
 ·refine kept b o hb hne (.inr ⟨?_,fun z=>?_⟩)
  ·have:=I.base
   rw[eF,eX,eH,e0]at this
   exact this.there b o' ho' (by simp)
  ·rw[eS]at z
   have z':b=s0.heap.objs.size∨b∈frs outer:=by
    have:=z
    unfold frs at this
    rw[List.filterMap_cons]at this
    simpa [envOfC,frs] using this
   rcases z' with z' | z'
   ·rw[z']at ho';exact absurd (Heap.lt_size ho') (Nat.lt_irrefl _)
   ·exact hn z'
end L2
namespace L2
open PySem PySem.Spec PyProof.Rows
section
variable {prog:Program}{w:World}{A:Around}{E:Value→Shared→Prop}{s:Shared}
variable {z TI TO i1 i2:Addr}{f1 f2:List Addr}{n i:Nat}{P1 P2:Nat→Value→Prop}{S1 S2:Nat→Heap→Prop}{a b:Value}
end
section
variable {prog:Program}{w:World}{A:Around}{E:Value→Shared→Prop}{s:Shared}{z TI TO i1 i2:Addr}{f1 f2:List Addr}{n i:Nat}{P1 P2:Nat→Value→Prop}{S1 S2:Nat→Heap→Prop}{a b:Value}
end
def Itz (K:PySem.W.Frag)(a b:Addr):It:=
  ⟨fun i H=>∃xs ys x y,SqT K H a xs∧SqT K H b ys∧xs.length=ys.length∧xs[i]?=some x∧ys[i]?=some y,
   fun i H v H'=>∃p x y,H p=none∧v=.ref p∧H'=upd H p (.tup [x,y])∧(∀xs,SqT K H a xs→xs[i]?=some x)∧∀ys,SqT K H b ys→ys[i]?=some y,
   fun i H=>∃xs ys,SqT K H a xs∧SqT K H b ys∧xs.length=ys.length∧xs.length=i⟩
section
variable {X:Cx}{es:List Expr}{x1:Nat}{tp:Pos}
def iZip (K:PySem.W.Frag)(ta:TA):TI:=fun σ H R=>ta σ H fun vs H1=>∃a b,vs=[.ref a,.ref b]∧(∃xs,SqT K H1 a xs)∧(∃ys,SqT K H1 b ys)∧R (Itz K a b) H1
end
section
variable {prog:Program}{w:World}{A:Around}{E:Value→Shared→Prop}{s:Shared}{l I S:Addr}{ls:List (List Nat)}{vs:List Value}{R:Result→Shared→Prop}{Q:Value→Shared→Prop}
end
section
variable {X:Cx}{e:Expr}{ta:TA}{p p2 pos kpos:Pos}
def repT (l:List Nat)(n:Int):List Nat:=(List.replicate n.toNat l).flatten
theorem foldl_cat (a:Array Nat):∀(n:Nat) (acc:Array Nat),((List.replicate n a).foldl (·++·) acc).toList=acc.toList++(List.replicate n a.toList).flatten
 | 0,acc=>by simp
 | n+1,acc=>by
  rw[List.replicate_succ,List.foldl_cons,foldl_cat a n,List.replicate_succ]
  simp
theorem mul_eq (l:List Nat)(n:Int):Txt.mul ⟨l.toArray⟩ n=⟨(repT l n).toArray⟩:=by
 unfold Txt.mul repT
 by_cases h1:n<1
 ·rw[if_pos h1]
  have:n.toNat=0:=by omega
  rw[this];rfl
 ·rw[if_neg h1]
  split
  ·rename_i h
   rw[Bool.or_eq_true]at h
   rcases h with h | h
   ·have:n=1:=by simpa using h
    subst this
    simp
   ·have:l=[]:=by
     have:=beq_iff_eq.mp h
     rw[txlen]at this
     exact List.length_eq_zero_iff.mp this
    subst this
    simp
  ·congr 1
   apply Array.ext'
   rw[foldl_cat]
   simp
theorem op_mul_tx:OpR X (binaryOp .Mult) (fun x y H Q=>∃l n,x=tx l∧y=.int n∧0≤n∧n≤1000∧l.length≤1000∧Q (tx (repT l n)) H):=by
 rintro pins s σ H x y v u Q I rx ry ⟨l,n,rfl,rfl,h0,h1,h2,q⟩
 obtain⟨t,rfl⟩:=rx
 obtain⟨t',rfl⟩:=ry
 have e1:(⟨l.toArray⟩:Str).length=l.length:=txlen l
 refine SB.mul ⟨?_,fun a b=>?_,fun a b=>?_⟩ fun t2 k=>?_
 ·simp only[Bool.or_eq_false_iff,decide_eq_false_iff_not];omega
 ·rw[e1]
  have e3:(1000:Int)≤(2 ^ 63-1)/n:=by
   rw[Int.le_ediv_iff_mul_le (by omega)]
   omega
  omega
 ·rw[e1]
  have:l.length*n.toNat≤1000*1000:=Nat.mul_le_mul h2 (by omega)
  unfold Builtin.Str.tooLong
  simp only[decide_eq_false_iff_not]
  rw[sizeLine_eq]
  omega
 ·rw[mul_eq];exact⟨tx _,H,I.tok _,⟨_,rfl⟩,q⟩
end
end L2
namespace L2
open PySem PySem.Spec PyProof.Rows
open PySem.W (Frag)
theorem pe_bmK {X:Cx} {K:Frag} {T id:String} {name:Str} {o e:Expr} {es:List Expr} {to:TE} {t:TA} {apos cpos:Pos} {r:V→List V→Hp→VK→Prop} (hK:X.K=K) (pa:PlainAttrs T) (slot:Slot T name id) (hty:typeOf (.builtin id)=pure (.type "method_descriptor")) (hm:MtR X id r) (ho:PE X o to) (ha:PA X (e::es) t)
  (hbase:attributeBase o name X.env (eval o X.env)=eval o X.env:=by rfl)
  (hfew:((backTo cpos (starEach (e::es) X.env)).all (fun x=>!x.1)&&(backToKw cpos (keywordEach [] X.env)).all (fun x=>x.1.isSome)&&decide ((e::es).length+([]:List Keyword).length+(if ([]:List Keyword).isEmpty then 0 else 1)<30))=true:=by rfl)
  (hline:(apos.endLine == cpos.line)=true:=by rfl) (hs:starEach (e::es) X.env=(false,eval e X.env)::starEach es X.env:=by rfl) (hplain:(backTo cpos (starEach es X.env)).any (·.1)=false:=by rfl):PE X (.Call (.Attribute o name apos) (e::es) [] cpos) (tBM K T r to t):=by
 subst hK
 exact pe_bm pa slot hty hm ho ha hbase hfew hline hs hplain
def sNo:TS:=fun _ _ _=>False
section
variable {X:Cx}{CX:CXT}{k:Nat}{L f:Addr}{fd:FuncData}{ps:List Str}{sp:Sp}{E:XK}{x:Str}{pos apos np:Pos}{e:Expr}{es:List Expr}{t:TA}{ds:List Value}{dvs:List V}
end
def WhileRun (c:TT)(tb:TS)(D:Ends)(σ:St)(H:Hp):Prop:=tWhile c tb D σ H
theorem q_while {c:TT}{tb:TS}{D:Ends}{σ:St}{H:Hp}:tWhile c tb D σ H=WhileRun c tb D σ H:=rfl
theorem WhileRun.by {c:TT}{tb:TS}{D:Ends}{σ:St}{H:Hp}(Pv:St→Hp→Prop)(μ:St→Hp→Nat)(h0:Pv σ H)
  (hs:∀σ H,Pv σ H→∃b:Bool,(∀Q:Bool→Hp→Prop,(∀H1,Same H H1→Q b H1)→c σ H Q)∧∀H1,Same H H1→if b=true then tb { D with nx:=fun σ' H'=>Pv σ' H'∧μ σ' H'<μ σ H,ct:=fun σ' H'=>Pv σ' H'∧μ σ' H'<μ σ H,bk:=D.nx } σ H1 else D.nx σ H1):WhileRun c tb D σ H:=by
 refine⟨fun m σ H=>m=μ σ H∧Pv σ H,⟨_,rfl,h0⟩,?_⟩
 rintro m σ H ⟨rfl,p⟩
 obtain⟨b,hc,hb⟩:=hs σ H p
 refine hc _ fun H1 s1=>?_
 have q:=hb H1 s1
 cases b with
 | true=>exact⟨_,fun σ' H' ⟨p',l⟩=>⟨_,l,rfl,p'⟩,q⟩
 | false=>exact q
end L2
namespace L2
open PySem PySem.Spec PyProof.Rows
section
variable {X:Cx}{k:Nat}{f C:Addr}{fd:FuncData}{ps:List Str}{sp:Sp}{dvs:List V}{ds:List Value}{x m:Str}{p pos apos:Pos}{e o:Expr}{es:List Expr}{ta:TE}{t:TA}
def tMethx (C:Addr)(m:Str)(sp:Sp)(dvs:List V)(ta:TE)(t:TA):TX:=fun σ H Q E=>ta σ H fun x H1=>∃a dx fs,x=.ref a∧H1 a=some (.ins C dx fs)∧fs.lookup m=none∧t σ H1 fun vs H2=>sp (x::(vs++dvs)) H2 Q E
theorem pex_meth {pl:Sem Bool}(he:PE X.nox o ta)(c:Cls X.K C)(hm:Meth X.K C m f)(F:FnOk X.prog X.w X.K X.mg X.base (CXr X.prog X.w) k f fd ps sp)(hr:Room k X.A)(hb:Binds X.K fd ps ds)(hd:Vals dvs ds)(ha:PA X.nox (e::es) t)
  (hst:starEach (e::es) X.env=(false,eval e X.env)::starEach es X.env:=by rfl) (hpl:(backTo pos (starEach es X.env)).any (·.1)=false:=by rfl)
  (ht:eval (.Call (.Attribute o m apos) (e::es) [] pos) X.env=(do
   let ov ←eval o X.env
   standAt apos.atName
   let (f,first) ←holding [ov] (getMethod ov m pl)
   callWith pos f first (backTo pos (starEach (e::es) X.env)) (backToKw pos (keywordEach [] X.env))):=by rfl):PEx X (.Call (.Attribute o m apos) (e::es) [] pos) (tMethx C m sp dvs ta t):=by
 intro pins s σ H Q E I h
 refine PySem.W.methodCall_KW (pl:=pl) (wpAny_mono (he pins s σ H _ (I.wish _) h) (fun u s1 ⟨y,H1,I1,rx,a,dx,fs,ex,ea,l,q⟩=>?_) fun _ _ z=>False.elim z) ht
 subst ex
 obtain rfl:u=Value.ref a:=rx
 refine getmeth_ok I1.unwish ea c hm l ?_
 refine PySem.W.callWith_K (first:=[.ref a]) (h₀:=X.base) I.ok.mod.kin hm.kp (wpAny_mono (ha pos pins s1 σ H1 _ I1 q) (fun us s2 ⟨vs,H2,I2,r,q2⟩=>⟨I2.kIn,?_⟩) fun _ _ z=>False.elim z) hst hpl
 exact run_fnx (us:=.ref a::us) (vs:=.ref a::vs) F hr hb hd I2.unwish (.cons rfl r) q2
def tMakex (C:Addr)(sp:Sp)(dvs:List V)(t:TA):TX:=fun σ H Q E=>t σ H fun vs H1=>∀x dx,H1 x=none→H1 dx=none→dx≠x→sp (.ref x::(vs++dvs)) (upd (upd H1 dx (.own x)) x (.ins C dx [])) (fun v H2=>v=.non∧Q (.ref x) H2) E
theorem run_makex {pins:List (Addr×Obj)}{σ:St}{H:Hp}{s:Shared}{Q:VK}{E:XK}{us:List Value}{vs:List V}(M:Mk X.K C f)(F:FnOk X.prog X.w X.K X.mg X.base (CXr X.prog X.w) k f fd ps sp)(hr:Room (k+1) X.A)(hb:Binds X.K fd ps ds)(hd:Vals dvs ds)(I:Inv X pins σ H s)(r:Vals vs us)
  (h:∀x dx,H x=none→H dx=none→dx≠x→sp (.ref x::(vs++dvs)) (upd (upd H dx (.own x)) x (.ins C dx [])) (fun v H2=>v=.non∧Q (.ref x) H2) E):
  wpAny (model X.prog X.w) X.A (call (.ref C) us) (EP X pins σ Q) (fun ev s'=>∃H2 s2,Inv X pins σ H2 s2∧CXr X.prog X.w X.stack H2 s2 E ev s') s:=by
 have hq:=h (s.heap.objs.size+1) s.heap.objs.size (I.hok.fresh (Nat.le_succ _)) (I.hok.fresh (Nat.le_refl _)) (Nat.ne_of_lt (Nat.lt_succ_self _))
 have J:=Inv.made (C:=C) I
 have rr:Vals (V.ref (s.heap.objs.size+1)::(vs++dvs)) (Value.ref (s.heap.objs.size+1)::(us++ds)):=.cons rfl (r.append hd)
 have hl:(Value.ref (s.heap.objs.size+1)::us++ds).length=ps.length:=by
  have z:=rr.length
  rw[F.len _ _ _ _ hq]at z
  exact z.symm
 refine wpAny_call (make_map (f:=f) I.kIn M.makes M.init (beq_iff_eq.mp M.fn) (codeAny_mono (F.run _ X.stack _ _ ⟨Value.ref (s.heap.objs.size+1)::us,[]⟩ (Value.ref (s.heap.objs.size+1)::(us++ds)) _ _ E (hr.make C us []) (J.env0.make C us []) (hb _ (Value.ref (s.heap.objs.size+1)::us) J.kIn hl) rr hq) fun fr s' z=>?_))
 cases fr with
 | error ev=>exact⟨_,_,J,z⟩
 | ok fl=>
  cases fl with
  | ret u=>
   obtain⟨v,H',I3,rv,ev,q3⟩:=J.after z
   subst ev
   exact⟨rv,⟨V.ref (s.heap.objs.size+1),H',I3,rfl,q3⟩⟩
  | next=>exact False.elim z
  | brk=>exact False.elim z
  | cont=>exact False.elim z
theorem pex_make (M:Mk X.K C f)(F:FnOk X.prog X.w X.K X.mg X.base (CXr X.prog X.w) k f fd ps sp)(hr:Room (k+1) X.A)(hg:Gl X x)(hm:X.mg x=some (.ref C))(hb:Binds X.K fd ps ds)(hd:Vals dvs ds)(ha:PA X.nox (e::es) t)
  (hdb:(x == ("__debug__":Str))=false:=by decide) (he:starEach (e::es) X.env=(false,eval e X.env)::starEach es X.env:=by rfl) (hpl:(backTo pos (starEach es X.env)).any (·.1)=false:=by rfl):PEx X (.Call (.Name x p) (e::es) [] pos) (tMakex C sp dvs t):=by
 intro pins s σ H Q E I h
 refine wpAny_Call_Name_kw (ld_glob I hg hm ?_ hdb)
 refine PySem.W.callWith_K (h₀:=X.base) I.ok.mod.kin M.kp (wpAny_mono (ha pos pins s σ H _ (I.wish _) h) (fun us s1 ⟨vs,H1,I1,r,q⟩=>⟨I1.kIn,?_⟩) fun _ _ z=>False.elim z) he hpl
 exact run_makex M F hr hb hd I1.unwish r q
theorem psx_if {c:Expr}{a b:List Stmt}{tc:TT}{t u:TSx}(hc:PT X.nox c tc)(ha:PSsx X a t)(hb:PSsx X b u):PSx X (.If c a b pos) (sIfx tc t u):=by
 intro pins s σ H D Ex I h
 refine wpAny_If (wpAny_mono (hc pins s σ H _ (I.wish _) h) (fun d s1 ⟨H1,I1,q1⟩=>?_) fun _ _ z=>False.elim z)
 cases d with
 | true=>exact ha pins s1 σ H1 D Ex I1.unwish q1
 | false=>exact hb pins s1 σ H1 D Ex I1.unwish q1
end
def EN:XK:=fun _ _ _=>False
theorem pass_no {X:Cx}:Passes (CXr X.prog X.w) X EN:=fun _ _ _ _ _ _ _ ⟨_,_,_,_,_,_,_,_,_,_,_,_,_,_,_,z⟩=>z.elim
section
variable {X:Cx}
def sConsx (t u:TSx):TSx:=fun D Ex σ H=>t { D with nx:=fun σ1 H1=>u D Ex σ1 H1 } Ex σ H
end
section
variable {X:Cx}{pins:List (Addr×Obj)}{σ:St}{H:Hp}{s:Shared}
def Plainly:HO→Prop
 | .tup _=>False
 | .tbl _=>False
 | .own _=>False
 | _=>True
theorem Inv.shift {a:Addr}{u u':HO}(I:Inv X pins σ H s)(ha:H a=some u)(hu:Plainly u)(hf:∀o v,X.H₀ a≠some (.frz o v))(new:ObjOk X.prog X.w (upd H a u') s.heap a u'):Inv X pins σ (upd H a u') s:=by
 have nn:∀b,H b=none→b≠a:=fun b n z=>by rw[z,ha]at n;cases n
 refine⟨I.ok,I.os,I.bare,⟨I.base.keep,I.base.slot,fun b o e n hx=>?_,I.base.there,fun b xs e=>?_,fun b o v e=>?_,fun b ps e=>?_⟩,I.loc,I.cell,?_,fun x c e=>?_,fun p hp=>?_,fun b ob e=>?_,I.len⟩
 ·have:=I.base.free b o e n hx
  rw[upd_ne (nn b this)];exact this
 ·have:=I.base.tups b xs e
  have ne:b≠a:=fun z=>by rw[z,ha]at this;cases this;exact hu
  rw[upd_ne ne];exact this
 ·have ne:b≠a:=fun z=>hf o v (by rw[←z];exact e)
  rw[upd_ne ne];exact I.base.frzs b o v e
 ·obtain⟨m,q⟩:=I.base.tbls b ps e
  have ne:b≠a:=fun z=>by rw[z,ha]at q;cases q;exact hu
  exact⟨m,by rw[upd_ne ne];exact q⟩
 ·rw[upd_ne (nn _ I.free)];exact I.free
 ·rw[upd_ne (nn _ (I.freeC x c e))];exact I.freeC x c e
 ·obtain⟨e,n,r⟩:=I.pin p hp
  exact⟨e,by rw[upd_ne (nn _ n)];exact n,r⟩
 ·by_cases hb:b=a
  ·subst hb
   rw[upd_same]at e
   cases e
   exact new
  ·rw[upd_ne hb]at e
   refine(I.hok b ob e).stay (fun _ _ _ q=>q) (fun c q=>?_) fun c xs q=>?_
   ·have ne:c≠a:=fun z=>by rw[z,ha]at q;cases q;exact hu
    rw[upd_ne ne];exact q
   ·have ne:c≠a:=fun z=>by rw[z,ha]at q;cases q;exact hu
    rw[upd_ne ne];exact q
theorem Inv.notFrz {a:Addr}{u:HO}(I:Inv X pins σ H s)(ha:H a=some u)(hu:∀o v,u≠.frz o v):∀o v,X.H₀ a≠some (.frz o v):=fun o v e=>by
 have:=I.base.frzs a o v e
 rw[ha]at this
 exact hu o v (Option.some.inj this)
theorem Inv.freezeD {a:Addr}{kvs:List (Key×V)}(I:Inv X pins σ H s)(ha:H a=some (.dK kvs)):∃o es ep,o.data=.dict es ep∧s.heap.get? a=some o∧Inv X pins σ (upd H a (.frz o (.dK kvs))) s:=by
 obtain⟨z,y,vs,r,ob,es,ep,e,c⟩:=I.hok a _ ha
 refine⟨ob,es,ep,c.2.1,e,I.shift ha trivial (I.notFrz ha fun o v q=>by cases q) ⟨e,z,y,vs,r,ob,es,ep,e,c⟩⟩
theorem Inv.thawD {a:Addr}{o:Obj}{kvs:List (Key×V)}(I:Inv X pins σ H s)(ha:H a=some (.frz o (.dK kvs)))(hf:∀o v,X.H₀ a≠some (.frz o v)):Inv X pins σ (upd H a (.dK kvs)) s:=by
 obtain⟨e,z,y,vs,r,c⟩:=I.hok a _ ha
 exact I.shift ha trivial hf ⟨z,y,vs,r,c⟩
end
theorem is_kV {P:Program}{w:World}{k:Key}{u:Value}(h:(mixKind P w).is k u=true):RelV (kV k) u:=by
 cases k with
 | inl i=>
  have h':(intKind P w).is i u=true:=h
  cases u<;>first | (exact absurd h' Bool.false_ne_true) | skip
  rename_i j t
  have e:(i == j)=true∨(j == i)=true:=by first | exact .inl h' | exact .inr h'
  rcases e with e | e
  ·exact⟨t,by rw[beq_iff_eq.mp e]⟩
  ·exact⟨t,by rw[beq_iff_eq.mp e]⟩
 | inr x=>
  have h':(strKind P w).is x u=true:=h
  cases u<;>first | (exact absurd h' Bool.false_ne_true) | skip
  rename_i j t
  have e:(x == j)=true∨(j == x)=true:=by first | exact .inl h' | exact .inr h'
  rcases e with e | e
  ·exact⟨t,by rw[beq_iff_eq.mp e]⟩
  ·exact⟨t,by rw[beq_iff_eq.mp e]⟩
def Itd (o:Obj)(kvs:List (Key×V))(a:Addr):It:=
 ⟨fun i H=>H a=some (.frz o (.dK kvs))∧i<kvs.length,fun i H x H'=>H'=H∧∃p,kvs[i]?=some p∧x=kV p.1,fun i H=>H a=some (.frz o (.dK kvs))∧kvs.length≤i⟩
theorem KV.getK {kvs:List (Key×V)}{vs:List (Key×Value)}(r:KV kvs vs):∀ {i:Nat} {p:Key×V},kvs[i]?=some p→∃v,vs[i]?=some (p.1,v):=by
 intro i p h
 have hk:=r.keys
 have hl:=r.length
 have hi:i<vs.length:=by rw[←hl];exact(List.getElem?_eq_some_iff.mp h).1
 have e1:(kvs.map (·.1))[i]?=some p.1:=by rw[List.getElem?_map,h];rfl
 rw[hk,List.getElem?_map,List.getElem?_eq_getElem hi]at e1
 refine⟨vs[i].2,?_⟩
 rw[List.getElem?_eq_getElem hi]
 have:vs[i].1=p.1:=Option.some.inj e1
 rw[←this]
theorem turn_dict {P:Program}{w:World}{K:PySem.W.Frag}{tg:Expr}{o:Obj}{es:Array DictEntry}{ep:Nat}{kvs:List (Key×V)}(a it:Addr)(hd:o.data=.dict es ep):Turn P w K tg (Itd o kvs a) [it] it (fun i h=>h.IsKeyIter it a i kvs.length ep) where
 mem:=by simp
 obj:=fun i h st b hb=>by
  have e:b=it:=by simpa using hb
  subst e
  obtain⟨o,e,c,d⟩:=st
  exact⟨o,e,fun v z=>by rw[d]at z;cases z⟩
 keep:=fun i h h' st k=>let ⟨o,ho,r⟩:=st;⟨o,k it (by simp) o ho,r⟩
 item:=by
  intro X hP hw hK hc i pins s σ H E I hf st hg
  subst hP hw hK
  obtain⟨ha,hi⟩:=hg
  obtain⟨e,z,y,vs,r,o',es',ep',e',c1,c2,c3⟩:=I.hok a _ ha
  rw[e]at e'
  cases e'
  rw[hd]at c2
  cases c2
  obtain⟨v,hv⟩:=r.getK (List.getElem?_eq_getElem hi)
  obtain⟨f0,f1,f2,f3,f4,f5⟩:=hf it (by simp)
  rw[r.length]at st
  refine wpAny_pyNext_dict_item st ⟨o,es,e,c1,hd,c3⟩ hv fun key h' hk st' sb=>?_
  have I1:Inv X pins σ H { s with heap:=h' }:=I.turned (t':=s.toks) (fun b o hb e=>(sb.2 b hb).trans e) f0 f1 f3 f4 f5
  obtain⟨oi,ei,ci,di⟩:=id st'
  rw[←r.length]at st'
  exact⟨key,rfl,go_of (s:={ s with heap:=h' }) ei ci di (by decide) ⟨kV kvs[i].1,H,I1,is_kV hk,⟨rfl,_,List.getElem?_eq_getElem hi,rfl⟩,st',fun b hb=>(hf b hb).1⟩⟩
 done:=by
  intro X hP hw hK hc i pins s σ H E I hf st hg
  subst hP hw hK
  obtain⟨ha,hi⟩:=hg
  obtain⟨e,z,y,vs,r,o',es',ep',e',c1,c2,c3⟩:=I.hok a _ ha
  rw[e]at e'
  cases e'
  rw[hd]at c2
  cases c2
  obtain⟨f0,f1,f2,f3,f4,f5⟩:=hf it (by simp)
  rw[r.length]at st hi
  exact wpAny_pyNext_dict_end (I.ok.hd hc) st ⟨o,es,e,c1,hd,c3⟩ (List.getElem?_eq_none hi) fun h' eb=>⟨rfl,I.turned (t':=s.toks) (fun b o hb e=>eb b o hb e) f0 f1 f3 f4 f5⟩
 self:=fun _ _ _ _ _ st h=>wpAny_pyIter_keyiter st h
section
variable {X:Cx}{tg:Expr}
def iDict (td:TE):TI:=fun σ H R=>td σ H fun x H1=>∃a kvs,x=.ref a∧H1 a=some (.dK kvs)∧∀o,R (Itd o kvs a) (upd H1 a (.frz o (.dK kvs)))
theorem pi_dict {l:Expr}{tl:TE}(hl:PE X l tl):PI X tg l (iDict tl):=by
 intro pins s σ H R I h
 refine thn (hl pins s σ H _ I h) fun v s1 ⟨x,H1,I1,r1,q1⟩=>?_
 obtain⟨a,kvs,e,hq,q⟩:=q1
 subst e
 cases r1
 obtain⟨z,y,vs,r,_⟩:=id (I1.hok a _ hq)
 obtain⟨o,es,ep,hd,ho,I2⟩:=I1.freezeD hq
 obtain⟨_,z2,y2,vs2,r2,o',es',ep',e',c1,c2,c3⟩:=I2.hok a _ upd_same
 rw[ho]at e'
 cases e'
 rw[hd]at c2
 cases c2
 refine wpAny_pyIter_dict y2 ⟨o,es,ho,c1,hd,c3⟩ ?_
 refine⟨s1.heap.objs.size,[s1.heap.objs.size],_,_,_,rfl,I2.kept (t':=s1.toks) fun b o e=>Heap.get?_push_of_some _ e,turn_dict (kvs:=kvs) a _ hd,⟨_,Heap.get?_push_size _ rfl,rfl,by rw[r2.length];rfl⟩,fun b hb=>?_,q o⟩
 have e:b=s1.heap.objs.size:=by simpa using hb
 subst e
 exact I2.fpOk (Nat.le_refl _) (I2.hok.fresh (Nat.le_refl _))
def Thw (a:Addr)(P:Hp→Prop)(H':Hp):Prop:=∃o kvs,H' a=some (.frz o (.dK kvs))∧P (upd H' a (.dK kvs))
def thD (a:Addr)(D:Ends):Ends:={ nx:=fun σ H=>Thw a (D.nx σ) H,rt:=fun v H=>Thw a (D.rt v) H,bk:=fun σ H=>Thw a (D.bk σ) H,ct:=fun σ H=>Thw a (D.ct σ) H }
def sThaw (ts:TS):TS:=fun D σ H=>∃a kvs,H a=some (.dK kvs)∧ts (thD a D) σ H
def tThaw (t:TE):TE:=fun σ H Q=>∃a kvs,H a=some (.dK kvs)∧t σ H fun v H'=>Thw a (Q v) H'
theorem ps_thaw {st:Stmt}{ts:TS}(h:PS X st ts):PS X st (sThaw ts):=by
 intro pins s σ H D I ⟨a,kvs,ha,hh⟩
 have nf:=I.notFrz ha fun o v q=>by cases q
 refine wpAny_mono (h pins s σ H _ I hh) (fun f s1 q=>?_) fun _ _ z=>z
 cases f with
 | next=>obtain⟨σ1,H1,I1,o,k1,e1,q1⟩:=q;exact⟨σ1,_,I1.thawD e1 nf,q1⟩
 | brk=>obtain⟨σ1,H1,I1,o,k1,e1,q1⟩:=q;exact⟨σ1,_,I1.thawD e1 nf,q1⟩
 | cont=>obtain⟨σ1,H1,I1,o,k1,e1,q1⟩:=q;exact⟨σ1,_,I1.thawD e1 nf,q1⟩
 | ret u=>obtain⟨v,σ1,H1,I1,r,o,k1,e1,q1⟩:=q;exact⟨v,σ1,_,I1.thawD e1 nf,r,q1⟩
end
section
variable {g:TG}{tb:TS}{D:Ends}{σ:St}{H:Hp}{o:Obj}{kvs:List (Key×V)}{a:Addr}
theorem ForRun.dict (Pv:Nat→St→Hp→Prop)(h0:Pv 0 σ H)(hl:∀i σ H,Pv i σ H→H a=some (.frz o (.dK kvs)))
  (hs:∀i p σ H,kvs[i]?=some p→Pv i σ H→g (kV p.1) σ H fun σ2 H2=>tb { D with nx:=Pv (i+1),ct:=Pv (i+1),bk:=D.nx } σ2 H2) (hd:∀σ H,Pv kvs.length σ H→D.nx σ H):ForRun (Itd o kvs a) g tb D σ H:=by
 refine⟨fun i m σ H=>m=kvs.length-i∧i≤kvs.length∧Pv i σ H,⟨kvs.length,by simp,Nat.zero_le _,h0⟩,?_⟩
 rintro i m σ H ⟨rfl,hi,p⟩
 have q:=hl i σ H p
 by_cases hlt:i<kvs.length
 ·refine .inr ⟨⟨q,hlt⟩,Pv (i+1),fun σ' H' p'=>⟨kvs.length-(i+1),by omega,rfl,hlt,p'⟩,fun x H' y=>?_⟩
  obtain⟨e,p2,e2,e3⟩:=y
  subst e e3
  exact hs i p2 σ _ e2 p
 ·have e:i=kvs.length:=by omega
  subst e
  exact .inl ⟨⟨q,Nat.le_refl _⟩,hd σ H p⟩
end
theorem Same.thaw {H H1 H2:Hp}{a:Addr}{o:Obj}{kvs:List (Key×V)}(ha:H a=some (.dK kvs))(s:Same (upd H a (.frz o (.dK kvs))) H2):Same H (upd H2 a (.dK kvs)):=fun b u hb=>by
 by_cases e:b=a
 ·rw[e]at hb ⊢;rw[upd_same,←hb,ha]
 ·rw[upd_ne e];exact s b u (by rw[upd_ne e];exact hb)
section
variable {prog:Program}{w:World}{A:Around}{E:Value→Shared→Prop}{s:Shared}
end
def kTx (l:List Nat):Key:=.inr ⟨l.toArray⟩
section
variable {X:Cx}
end
def wordsOf (l:List Nat)(n:Nat):List (List Nat):=sortT (ddl ((List.range (l.length+1-n)).map fun i=>(l.drop i).take n))
theorem mem_foldl_addT {x:List Nat}:∀(ls acc:List (List Nat)),x∈ls.foldl addT acc↔x∈acc∨x∈ls
 | [],acc=>by simp
 | y::ls,acc=>by
  rw[List.foldl_cons,mem_foldl_addT ls]
  have h:x∈addT acc y↔x∈acc∨x=y:=by
   unfold addT
   split
   ·rename_i h
    constructor
    ·exact .inl
    ·rintro (q | q)
     ·exact q
     ·rw[q];exact h
   ·rw[List.mem_append,List.mem_singleton]
  rw[h,List.mem_cons,or_assoc]
theorem mem_ddl {x:List Nat}{ls:List (List Nat)}:x∈ddl ls↔x∈ls:=by
 unfold ddl
 rw[mem_foldl_addT]
 simp
end L2
namespace L2
open PySem PySem.Spec PyProof.Rows
open PySem.W (Frag)
def AtW (l w:List Nat)(i:Nat):Prop:=i+w.length≤l.length∧(l.drop i).take w.length=w
def Inf (w l:List Nat):Prop:=∃i,AtW l w i
theorem subAt_iff (l w:List Nat)(i:Nat):StrLaws.At ⟨l.toArray⟩ ⟨w.toArray⟩ (⟨l.toArray⟩:Str).length i↔AtW l w i:=by
 have e1:(⟨l.toArray⟩:Str).length=l.length:=txlen l
 have e2:(⟨w.toArray⟩:Str).length=w.length:=txlen w
 unfold StrLaws.At AtW Builtin.Str.subAt
 rw[e1,e2]
 refine and_congr_right fun h=>?_
 have e3:l.toArray.extract i (i+w.length)=((l.drop i).take w.length).toArray:=by
  apply Array.ext'
  simp only[List.extract_toArray,List.extract_eq_take_drop]
  have:i+w.length-i=w.length:=by omega
  rw[this]
 show (l.toArray.extract i (i+w.length) == w.toArray)=true↔_
 rw[e3,beq_iff_eq]
 exact⟨fun z=>by simpa using congrArg Array.toList z,fun z=>by rw[z]⟩
theorem AtW.nil (l:List Nat):AtW l [] 0:=⟨by simp,by simp⟩
theorem Inf.nil (l:List Nat):Inf [] l:=⟨0,AtW.nil l⟩
theorem Inf.len {w l:List Nat}(h:Inf w l):w.length≤l.length:=by obtain⟨i,h,_⟩:=h;omega
theorem Inf.mem {w l:List Nat}(h:Inf w l){c:Nat}(hc:c∈w):c∈l:=by
 obtain⟨i,_,h⟩:=h
 rw[←h]at hc
 exact List.mem_of_mem_drop (List.mem_of_mem_take hc)
theorem AtW.trans {u v w:List Nat}{i j:Nat}(h1:AtW v u i)(h2:AtW w v j):AtW w u (j+i):=by
 obtain⟨a1,b1⟩:=h1
 obtain⟨a2,b2⟩:=h2
 refine⟨by omega,?_⟩
 have e:(w.drop (j+i)).take u.length=((((w.drop j).take v.length).drop i).take u.length):=by
  rw[List.drop_take,List.drop_drop,List.take_take]
  congr 1
  omega
 rw[e,b2,b1]
theorem Inf.trans {u v w:List Nat}(h1:Inf u v)(h2:Inf v w):Inf u w:=by
 obtain⟨i,h1⟩:=h1
 obtain⟨j,h2⟩:=h2
 exact⟨_,h1.trans h2⟩
theorem mem_wordsOf {l x:List Nat}{n:Nat}(hn:n≤l.length+1):x∈wordsOf l n↔x.length=n∧Inf x l:=by
 unfold wordsOf
 rw[(sortT_perm _).mem_iff,mem_ddl,List.mem_map]
 constructor
 ·rintro⟨i,hi,rfl⟩
  have hi:=List.mem_range.mp hi
  have hl:((l.drop i).take n).length=n:=by rw[List.length_take,List.length_drop];omega
  exact⟨hl,i,by omega,by rw[hl]⟩
 ·rintro⟨rfl,i,h1,h2⟩
  exact⟨i,List.mem_range.mpr (by omega),h2⟩
section
variable {tt:TT}{te:TE}{Q:VK}{τ0:St}{H:Hp}{K:Frag}{a:Addr}{xs:List V}
end
section
variable {X:Cx}
theorem upper_one:∀k,k<26→Unicode.upperOf (97+k)=[65+k]:=by decide +kernel
theorem flat_single {α β:Type}(g:α→β):∀l:List α,(l.map fun x=>[g x]).flatten=l.map g
 | []=>rfl
 | x::l=>by rw[List.map_cons,List.flatten_cons,flat_single g l];rfl
theorem upper_tx {l:List Nat}(h:∀c∈l,97≤c∧c≤122):Txt.upper ⟨l.toArray⟩=⟨(l.map (· - 32)).toArray⟩:=by
 unfold Txt.upper placed
 have e:(l.toArray.mapIdx fun i c=>(Unicode.upperOf c).toArray)=(l.map fun c=>#[c-32]).toArray:=by
  apply Array.ext'
  rw[Array.toList_mapIdx]
  apply List.ext_getElem (by simp)
  intro i h1 h2
  have hi:i<l.length:=by simpa using h2
  obtain⟨b1,b2⟩:=h l[i] (List.getElem_mem hi)
  have:=upper_one (l[i]-97) (by omega)
  have e1:97+(l[i]-97)=l[i]:=by omega
  have e2:65+(l[i]-97)=l[i]-32:=by omega
  rw[e1,e2]at this
  simp[this]
 show (⟨(l.toArray.mapIdx fun i c=>(Unicode.upperOf c).toArray).flatten⟩:Str)=_
 rw[e]
 congr 1
 apply Array.ext'
 rw[Array.toList_flatten]
 have:((l.map fun c=>#[c-32]).toArray.toList.map Array.toList)=l.map fun c=>[c-32]:=by simp
 simp only[List.map_map]
 rw[show (l.map (Array.toList ∘ fun c=>#[c-32]))=l.map fun c=>[c-32] from rfl,flat_single]
theorem mt_upperS:MtM X "str.upper" (fun x vs H Q=>∃l,x=tx l∧vs=[]∧l.length≤1000∧(∀c∈l,97≤c∧c≤122)∧Q (tx (l.map (· - 32))) H):=by
 rintro pins s σ H x vs v us Q I rx rv ⟨l,rfl,rfl,hz,hc,q⟩
 obtain⟨t,rfl⟩:=rx
 cases rv
 have hfit:(⟨l.toArray⟩:Str).length≤5592405:=by rw[txlen];omega
 refine PyProof.Rows.SCL.upper hfit fun hle=>?_
 rw[upper_tx hc]
 exact⟨tx (l.map (· - 32)),H,I.tok _,⟨s.toks,rfl⟩,q⟩
end
end L2
namespace L2
open PySem PySem.Spec PyProof.Rows
section
variable {X:Cx}
end
section
variable {X:Cx}{pins:List (Addr×Obj)}{σ:St}{H:Hp}{s:Shared}{a b:Addr}{kvs more:List (Key×V)}{A:Around}{E:Value→Shared→Prop}
def tDUpd (td ty:TE):TE:=fun σ H Q=>td σ H fun x H1=>∃a,x=.ref a∧IsD H1 a∧ty σ H1 fun y H2=>∃b kvs more,y=.ref b∧H2 a=some (.dK kvs)∧H2 b=some (.dK more)∧a≠b∧kvs.length+more.length≤sizeLine∧Q .non (upd H2 a (.dK (mergeK kvs more)))
end
section
variable {prog:Program}{w:World}{A:Around}{E:Value→Shared→Prop}{s:Shared}{l I S:Addr}{ns:List Int}{vs:List Value}{R:Result→Shared→Prop}{Q:Value→Shared→Prop}{d:Value}
end
section
variable {X:Cx}{e:Expr}{ta:TA}{p p2 pos kpos:Pos}
def rMaxD (n:Int):List V→Hp→VK→Prop:=fun xs H Q=>∃a ns,xs=[.ref a]∧H a=some (.lst (ns.map V.int))∧∀r,(ns=[]→r=n)→(ns≠[]→r∈ns)→(∀x∈ns,x≤r)→Q (.int r) H
end
end L2
namespace L2
open PySem PySem.Spec PyProof.Rows
open PySem.W (Frag)
theorem mt_findF {X:Cx}:MtM X "str.find" (fun x vs H Q=>∃l w,x=tx l∧vs=[tx w]∧∀r:Int,((r=-1∧¬Inf w l)∨∃i:Nat,r=(i:Int)∧AtW l w i∧∀j,j<i→¬AtW l w j)→Q (.int r) H):=by
 rintro pins s σ H x vs v us Q I rx rv ⟨l,w,rfl,rfl,q⟩
 obtain⟨t,rfl⟩:=rx
 obtain⟨u,rfl,t',rfl⟩:=rv.one
 refine SC.find ?_
 refine⟨.int _,H,I.tok _,⟨_,rfl⟩,q _ ?_⟩
 rcases find_whole (⟨l.toArray⟩:Str) ⟨w.toArray⟩ with⟨h1,h2⟩|⟨i,h1,h2,h3⟩
 ·exact .inl ⟨h1,fun ⟨i,hi⟩=>h2 i ((subAt_iff l w i).mpr hi)⟩
 ·exact .inr ⟨i,h1,(subAt_iff l w i).mp h2,fun j hj hA=>h3 j hj ((subAt_iff l w j).mpr hA)⟩
section
variable {τ0:St}{tt:TT}{te:TE}{H:Hp}{Q:VK}
theorem CompRun.tup {K:Frag}{a:Addr}{xs:List V}(b:Nat→Bool)(f:Nat→V)(hz:xs.length≤1000)(hx:SqT K H a xs)
  (ht:∀i H' Q' (h:i<xs.length),Same H H'→(∀H'',Same H' H''→Q' (b i) H'')→tt (τ0.set 0 (some (xs.getD i .non))) H' Q')
  (he:∀i H' Q' (h:i<xs.length),b i=true→Same H H'→(∀H'',Same H' H''→Q' (f i) H'')→te (τ0.set 0 (some (xs.getD i .non))) H' Q')
  (hQ:∀p H',Same H H'→H p=none→H' p=some (.lst (((List.range xs.length).filter b).map f))→Q (.ref p) H'):CompRun (Itt K a) τ0 (gName 0) tt te H Q:=
 .gen (fun i=>xs.getD i .non) b f hz (fun i H' h s=>⟨xs,xs[i],s.seqT hx,by simp[h]⟩) (fun H' s=>⟨xs,s.seqT hx,Nat.le_refl _⟩) (fun i H' x H3 h s y=>by
  obtain⟨e,y⟩:=y
  refine⟨e,?_⟩
  rw[List.getD_eq_getElem?_getD,y xs (s.seqT hx)];rfl) ht he hQ
end
section
variable {X:Cx}{pos:Pos}
def tDispT1 (tk tv:TE):TE:=fun σ H Q=>∀p,H p=none→tk σ (upd H p (.dT [])) fun x H1=>tv σ H1 fun y H2=>∃b ks,x=.ref b∧H2 b=some (.tup (ks.map kV))∧H2 p=some (.dT [])∧Q (.ref p) (upd H2 p (.dT [(ks,y)]))
theorem pe_dispT1 {k v:Expr}{tk tv:TE}(hu:X.A.units+1<cLine)(hk:PE X k tk)(hv:PE X v tv):PE X (.Dict [some k] [v] pos) (tDispT1 tk tv):=by
 intro pins s σ H Q I q
 have hn:=I.hok.fresh (Nat.le_refl s.heap.objs.size)
 have I1:=I.laid (a:=s.heap.objs.size) (o:=.dT []) (h':=s.heap.push { cls:=.type "dict",data:=.dict #[] }) (t':=s.toks) (fun _ _ q=>Heap.get?_push_of_some _ q) (Nat.le_refl _) (dt_empty s.heap I.big)
 have hl:(pairTrees [some k] [v] X.env pos).length=1:=pairTrees_length _ _ _ _ rfl rfl
 rw[arm_eval_Dict,zip_pairTrees [some k] [v] X.env pos rfl rfl,dictDisplay_pairs _ (by intro e;rw[e]at hl;cases hl) (by rw[hl];decide)]
 refine wpAny_bind (wpAny_standAt (wpAny_bind ?_))
 unfold subDict
 refine wpAny_bind (wpAny_alloc ?_)
 refine wpAny_bind (wpAny_holding ?_)
 rw[if_pos (by rw[hl];decide)]
 refine wpAny_bind (pairTrees_cons_walk (thn (hk pins _ σ _ _ I1 (q _ hn)) fun u s1 ⟨x,H1,I2,rx,q1⟩=>thn (hv pins s1 σ H1 _ I2 q1) fun w s2 ⟨y,H2,I3,ry,b,ks,ex,hb,hp,q2⟩=>pairTrees_nil_walk ?_))
 subst ex
 obtain rfl:u=Value.ref b:=rx
 refine wpAny_holding ?_
 simp only[List.forIn_cons,List.forIn_nil]
 obtain⟨z,hd,xs,rel,dd⟩:=dt_of I3.hok hp
 cases rel
 refine wpAny_bind (wpAny_bind (wpAny_bind (wpAny_dictSet_heap (hsz:=Nat.zero_le _) ?room (key_of I3.hok hb) dd fun h' dd' hs=>wpAny_pure (wpAny_pure (wpAny_pure (wpAny_pure (wpAny_pure ⟨.ref s.heap.objs.size,_,?inv,rfl,q2⟩)))))))
 case room=>exact Nat.lt_of_le_of_lt (Nat.le_succ _) hu
 case inv=>
  obtain⟨qq,es,ep,hq,h2,h3,h4,_,h5⟩:=dd'
  have rel2:=KT.put (k:=ks) (.nil:KT H2 [] []) hb ry
  refine d_write I3 (by rw[hp];exact True.intro) hs ⟨qq,hq⟩ ⟨by rw[sizeLine_eq];show (1:Nat)≤16777216;decide,hd,_,rel2.keeps fun c ys ec=>?_,qq,es,ep,hq,h2,h3,h4,h5⟩
  rw[upd_ne (ne_of ec hp (fun z=>nomatch z))]
  exact ec
end
end L2
namespace L2
open PySem PySem.Spec PyProof.Rows
instance (l w:List Nat) (i:Nat):Decidable (AtW l w i):=by unfold AtW;infer_instance
def behindL (l S:List Nat)(c:Nat):List Nat:=(S.filter fun s=>decide (l[s]?=some c)).map (· + 1)
def firstS (l:List Nat):List Nat:=(List.range (l.length+1)).filter fun i=>decide (∀j,j<i→¬AtW l (l.drop i) j)
def spotsAt (l w:List Nat):List Nat:=((firstS l).filter fun i=>decide (AtW l w i)).map (· + w.length)
theorem first_le {l:List Nat}{i:Nat}(h:i∈firstS l):i≤l.length:=by
 have:=List.mem_range.mp (List.mem_filter.mp h).1
 omega
theorem spots_nil (l:List Nat):spotsAt l []=firstS l:=by
 unfold spotsAt
 have e:(firstS l).filter (fun i=>decide (AtW l [] i))=firstS l:=List.filter_eq_self.mpr fun i hi=>by
  have:=first_le hi
  exact decide_eq_true ⟨by simpa using this,by simp⟩
 rw[e]
 simp
theorem atW_snoc {l w:List Nat}{c i:Nat}:AtW l (w++[c]) i↔AtW l w i∧l[i+w.length]?=some c:=by
 unfold AtW
 rw[List.length_append,List.length_singleton]
 constructor
 ·rintro⟨h1,h2⟩
  have hlt:i+w.length<l.length:=by omega
  have e:(l.drop i).take (w.length+1)=(l.drop i).take w.length++[l[i+w.length]]:=by
   rw[List.take_succ,List.getElem?_drop,List.getElem?_eq_getElem hlt];rfl
  rw[e]at h2
  have h3:=List.append_inj' h2 rfl
  refine⟨⟨by omega,h3.1⟩,?_⟩
  rw[List.getElem?_eq_getElem hlt]
  have:=h3.2
  injection this with a b
  rw[a]
 ·rintro⟨⟨h1,h2⟩,h3⟩
  have hlt:i+w.length<l.length:=(List.getElem?_eq_some_iff.mp h3).1
  refine⟨by omega,?_⟩
  rw[List.take_succ,List.getElem?_drop,h3,h2]
  rfl
theorem spots_snoc (l w:List Nat)(c:Nat):spotsAt l (w++[c])=behindL l (spotsAt l w) c:=by
 unfold behindL spotsAt
 rw[List.filter_map,List.map_map,List.filter_filter]
 have e:((firstS l).filter fun i=>decide (AtW l (w++[c]) i))=(firstS l).filter fun a=>((fun s=>decide (l[s]?=some c)) ∘ fun x=>x+w.length) a&&decide (AtW l w a):=by
  apply List.filter_congr
  intro i _
  rw[Bool.eq_iff_iff,Bool.and_eq_true,decide_eq_true_iff,decide_eq_true_iff,atW_snoc]
  show _↔decide (l[i+w.length]?=some c)=true∧_
  rw[decide_eq_true_iff]
  exact And.comm
 rw[e]
 apply List.map_congr_left
 intro i _
 show i+(w++[c]).length=i+w.length+1
 rw[List.length_append,List.length_singleton]
 omega
theorem least_at {l w:List Nat}(h:Inf w l):∃i,AtW l w i∧∀j,j<i→¬AtW l w j:=by
 obtain⟨i,hi⟩:=h
 induction i using Nat.strongRecOn with
 | _ i ih=>
  by_cases c:∃j,j<i∧AtW l w j
  ·obtain⟨j,hj,hA⟩:=c
   exact ih j hj hA
  ·exact⟨i,hi,fun j hj hA=>c ⟨j,hj,hA⟩⟩
theorem atW_of_drop {l w:List Nat}{i j:Nat}(h:AtW l w i)(hd:AtW l (l.drop i) j):AtW l w j:=by
 obtain⟨h1,h2⟩:=h
 obtain⟨d1,d2⟩:=hd
 rw[List.length_drop]at d1 d2
 refine⟨by omega,?_⟩
 have e:(l.drop j).take w.length=((l.drop j).take (l.length-i)).take w.length:=by rw[List.take_take,Nat.min_eq_left (by omega)]
 rw[e,d2]
 exact h2
theorem spots_ne {l w:List Nat}:spotsAt l w≠[]↔Inf w l:=by
 constructor
 ·intro h
  unfold spotsAt at h
  have h':(firstS l).filter (fun i=>decide (AtW l w i))≠[]:=fun e=>h (by rw[e];rfl)
  obtain⟨i,hi⟩:=List.exists_mem_of_ne_nil _ h'
  exact⟨i,of_decide_eq_true (List.mem_filter.mp hi).2⟩
 ·intro h
  obtain⟨i,hi,hmin⟩:=least_at h
  have hle:i≤l.length:=by have:=hi.1;omega
  have hf:i∈firstS l:=List.mem_filter.mpr ⟨List.mem_range.mpr (by omega),decide_eq_true fun j hj hd=>hmin j hj (atW_of_drop hi hd)⟩
  intro e
  unfold spotsAt at e
  have:=List.map_eq_nil_iff.mp e
  have hm:i∈(firstS l).filter (fun i=>decide (AtW l w i)):=List.mem_filter.mpr ⟨hf,decide_eq_true hi⟩
  rw[this]at hm
  cases hm
theorem spots_len (l w:List Nat):(spotsAt l w).length≤l.length+1:=by
 unfold spotsAt firstS
 rw[List.length_map]
 refine Nat.le_trans (List.length_filter_le _ _) (Nat.le_trans (List.length_filter_le _ _) ?_)
 rw[List.length_range]
 exact Nat.le_refl _
theorem nodup_le {α:Type}[DecidableEq α]:∀(l m:List α),l.Nodup→(∀x∈l,x∈m)→l.length≤m.length
 | [],m,_,_=>Nat.zero_le _
 | x::l,m,nd,h=>by
  have hx:=h x List.mem_cons_self
  have nd':=List.nodup_cons.mp nd
  have:=nodup_le l (m.erase x) nd'.2 fun y hy=>(List.mem_erase_of_ne (fun e=>by rw[e]at hy;exact nd'.1 hy)).mpr (h y (List.mem_cons_of_mem _ hy))
  rw[List.length_erase_of_mem hx]at this
  have pos:0<m.length:=List.length_pos_of_mem hx
  rw[List.length_cons]
  omega
def allStr (l:List Nat):List (List Nat):=(List.range (l.length+1)).flatMap fun i=>(List.range (l.length+1)).map fun k=>(l.drop i).take k
theorem allStr_len (l:List Nat):(allStr l).length=(l.length+1)*(l.length+1):=by
 unfold allStr
 rw[List.length_flatMap]
 have e:((List.range (l.length+1)).map fun i=>((List.range (l.length+1)).map fun k=>(l.drop i).take k).length)=List.replicate (l.length+1) (l.length+1):=by
  apply List.ext_getElem (by simp)
  intro i h1 h2
  simp
 rw[e,List.sum_replicate_nat]
theorem mem_allStr {l w:List Nat}(h:Inf w l):w∈allStr l:=by
 obtain⟨i,h1,h2⟩:=h
 unfold allStr
 rw[List.mem_flatMap]
 refine⟨i,List.mem_range.mpr (by omega),List.mem_map.mpr ⟨w.length,List.mem_range.mpr (by omega),h2⟩⟩
theorem rooms_le {l:List Nat}{sp:List (List Nat)}(nd:sp.Nodup)(h:∀s∈sp,∃w,Inf w l∧s=spotsAt l w)(hl:l.length≤40):sp.length≤1681:=by
 have h1:=nodup_le sp ((allStr l).map (spotsAt l)) nd fun s hs=>by
  obtain⟨w,hw,rfl⟩:=h s hs
  exact List.mem_map_of_mem (mem_allStr hw)
 rw[List.length_map,allStr_len]at h1
 have:(l.length+1)*(l.length+1)≤41*41:=Nat.mul_le_mul (by omega) (by omega)
 omega
def Way (l:List Nat)(sp:List (List Nat))(s:List Nat)(c:Nat)(v:Option V):Prop:=(behindL l s c=[]∧v=none)∨(behindL l s c≠[]∧∃j:Nat,sp[j]?=some (behindL l s c)∧v=some (.int (j:Int)))
theorem Way.more {l s:List Nat}{sp more:List (List Nat)}{c:Nat}{v:Option V}(h:Way l sp s c v):Way l (sp++more) s c v:=by
 rcases h with h | ⟨h1,j,h2,h3⟩
 ·exact .inl h
 ·exact .inr ⟨h1,j,by rw[List.getElem?_append_left (List.getElem?_eq_some_iff.mp h2).1];exact h2,h3⟩
theorem Rd.same {H H':Hp}{a:Addr}{u:HO}(h:Rd H a u)(s:Same H H'):Rd H' a u:=h.elim (fun h=>.inl (s _ _ h)) fun ⟨o,h⟩=>.inr ⟨o,s _ _ h⟩
def Room1 (H:Hp)(l m:List Nat)(sp:List (List Nat))(i:Nat)(y:V):Prop:=∃(t d:Addr) (w:List Nat) (kvs:List (Key×V)),y=.ref t∧H t=some (.tup [tx w,.ref d])∧Rd H d (.dK kvs)∧Inf w l∧w.length≤l.length∧sp[i]?=some (spotsAt l w)∧∀c∈m,Way l sp (spotsAt l w) c (valV kvs (kTx [c]))
structure MachOk (H:Hp)(l m:List Nat)(sp:List (List Nat))(ys:List V):Prop where
 first:sp[0]?=some (firstS l)
 len:ys.length=sp.length
 nd:sp.Nodup
 rooms:∀i y,ys[i]?=some y→Room1 H l m sp i y
theorem Room1.same {H H':Hp}{l m:List Nat}{sp:List (List Nat)}{i:Nat}{y:V}(h:Room1 H l m sp i y)(s:Same H H'):Room1 H' l m sp i y:=by
 obtain⟨t,d,w,kvs,e,h1,h2,r⟩:=h
 exact⟨t,d,w,kvs,e,s _ _ h1,Rd.same h2 s,r⟩
theorem MachOk.same {H H':Hp}{l m:List Nat}{sp:List (List Nat)}{ys:List V}(h:MachOk H l m sp ys)(s:Same H H'):MachOk H' l m sp ys:=⟨h.first,h.len,h.nd,fun i y e=>(h.rooms i y e).same s⟩
theorem nodup_at {α:Type}{sp:List α}(nd:sp.Nodup){i j:Nat}{s:α}(h1:sp[i]?=some s)(h2:sp[j]?=some s):i=j:=by
 obtain⟨a1,e1⟩:=List.getElem?_eq_some_iff.mp h1
 obtain⟨a2,e2⟩:=List.getElem?_eq_some_iff.mp h2
 have z:=List.pairwise_iff_getElem.mp nd
 rcases Nat.lt_trichotomy i j with h | h | h
 ·exact absurd (e1.trans e2.symm) (z i j a1 a2 h)
 ·exact h
 ·exact absurd (e2.trans e1.symm) (z j i a2 a1 h)
theorem lt_tri:∀(a b:List Nat),a<b∨a=b∨b<a
 | [],[]=>.inr (.inl rfl)
 | [],_::_=>.inl .nil
 | _::_,[]=>.inr (.inr .nil)
 | c::a,d::b=>by
  rcases Nat.lt_trichotomy c d with h | h | h
  ·exact .inl (List.Lex.rel h)
  ·subst h
   rcases lt_tri a b with h | h | h
   ·exact .inl (List.Lex.cons h)
   ·exact .inr (.inl (by rw[h]))
   ·exact .inr (.inr (List.Lex.cons h))
  ·exact .inr (.inr (List.Lex.rel h))
theorem words_sorted (l:List Nat)(n:Nat):(wordsOf l n).Pairwise (· < ·):=by
 have h1:(wordsOf l n).Pairwise (fun a b=>leT a b=true):=sortT_sorted _
 have h2:(wordsOf l n).Nodup:=(sortT_perm _).nodup_iff.mpr (by rw[←dd_list];exact dd_nodup _)
 refine(h1.and h2).imp ?_
 rintro a b ⟨x,y⟩
 have x':¬b<a:=by simpa [leT] using x
 rcases lt_tri a b with z | z | z
 ·exact z
 ·exact absurd z y
 ·exact absurd z x'
theorem nodup_map {α β:Type}{f:α→β}:∀ {l:List α},l.Nodup→(∀x∈l,∀y∈l,f x=f y→x=y)→(l.map f).Nodup
 | [],_,_=>by simp
 | x::l,nd,h=>by
  have nd':=List.nodup_cons.mp nd
  rw[List.map_cons,List.nodup_cons]
  refine⟨fun z=>?_,nodup_map nd'.2 fun a ha b hb=>h a (List.mem_cons_of_mem _ ha) b (List.mem_cons_of_mem _ hb)⟩
  obtain⟨y,hy,e⟩:=List.mem_map.mp z
  have:=h y (List.mem_cons_of_mem _ hy) x List.mem_cons_self e
  rw[this]at hy
  exact nd'.1 hy
end L2
namespace L2
open PySem PySem.Spec PyProof.Rows PySem.W
theorem atW_pre {l x y:List Nat}{i:Nat}(h:AtW l (x++y) i):AtW l x i:=by
 obtain⟨h1,h2⟩:=h
 rw[List.length_append]at h1
 refine⟨by omega,?_⟩
 have:=congrArg (List.take x.length) h2
 rw[List.take_take,List.length_append,Nat.min_eq_left (by omega),List.take_append_of_le_length (Nat.le_refl _),List.take_length]at this
 exact this
theorem atW_suf {l x y:List Nat}{i:Nat}(h:AtW l (x++y) i):AtW l y (i+x.length):=by
 obtain⟨h1,h2⟩:=h
 rw[List.length_append]at h1
 refine⟨by omega,?_⟩
 have:=congrArg (List.drop x.length) h2
 rw[List.length_append,List.drop_take,List.drop_drop,List.drop_left,show x.length+y.length-x.length=y.length by omega]at this
 exact this
theorem inf_suf {l x y:List Nat}(h:Inf (x++y) l):Inf y l:=let ⟨i,h⟩:=h;⟨_,atW_suf h⟩
theorem inf_pre {l x y:List Nat}(h:Inf (x++y) l):Inf x l:=let ⟨i,h⟩:=h;⟨i,atW_pre h⟩
def idxS (sp:List (List Nat))(b:List Nat):Option Nat:=(List.range sp.length).find? fun j=>decide (sp[j]?=some b)
theorem idxS_ok {sp:List (List Nat)}{b:List Nat}{j:Nat}(nd:sp.Nodup)(h:sp[j]?=some b):idxS sp b=some j:=by
 unfold idxS
 rw[List.find?_range_eq_some]
 refine⟨decide_eq_true h,List.mem_range.mpr (List.getElem?_eq_some_iff.mp h).1,fun i hi=>?_⟩
 rw[Bool.not_eq_true',decide_eq_false_iff_not]
 intro z
 have:=nodup_at nd z h
 omega
theorem idxS_in {sp:List (List Nat)}{b:List Nat}{j:Nat}(h:idxS sp b=some j):sp[j]?=some b:=by
 have:=List.find?_some h
 exact of_decide_eq_true this
def dlt (l:List Nat)(sp:List (List Nat))(i c:Nat):Option Nat:=match sp[i]? with
 | none=>none
 | some s=>if behindL l s c=[] then none else idxS sp (behindL l s c)
def nV:Option Nat→V
 | none=>.non
 | some j=>.int (j:Int)
theorem Way.nv {l:List Nat}{sp:List (List Nat)}{i c:Nat}{s:List Nat}{o:Option V}(nd:sp.Nodup)(hi:sp[i]?=some s)(h:Way l sp s c o):o.getD .non=nV (dlt l sp i c):=by
 unfold dlt
 rw[hi]
 dsimp only
 rcases h with⟨e,rfl⟩|⟨e,j,hj,rfl⟩
 ·rw[if_pos e];rfl
 ·rw[if_neg e,idxS_ok nd hj];rfl
structure MSp (l m:List Nat)(sp:List (List Nat)):Prop where
 nd:sp.Nodup
 word:∀(i:Nat) (s:List Nat),sp[i]?=some s→∃w,Inf w l∧s=spotsAt l w
 clo:∀(i:Nat) (s:List Nat) (c:Nat),sp[i]?=some s→c∈m→behindL l s c≠[]→behindL l s c∈sp
theorem MachOk.msp {H:Hp}{l m:List Nat}{sp:List (List Nat)}{ys:List V}(h:MachOk H l m sp ys):MSp l m sp:=by
 have key:∀(i:Nat) (s:List Nat),sp[i]?=some s→∃w kvs,Inf w l∧s=spotsAt l w∧∀c∈m,Way l sp (spotsAt l w) c (valV kvs (kTx [c])):=fun i s hs=>by
  have hi:=(List.getElem?_eq_some_iff.mp hs).1
  have e:=h.len
  obtain⟨t,d,w,kvs,_,_,_,a1,_,a2,a3⟩:=h.rooms i _ (List.getElem?_eq_getElem (by omega))
  rw[hs]at a2
  exact⟨w,kvs,a1,Option.some.inj a2,a3⟩
 refine⟨h.nd,fun i s hs=>let ⟨w,_,a,b,_⟩:=key i s hs;⟨w,a,b⟩,fun i s c hs hc hb=>?_⟩
 obtain⟨w,kvs,_,rfl,a3⟩:=key i s hs
 rcases a3 c hc with⟨z,_⟩|⟨_,j,hj,_⟩
 ·exact absurd z hb
 ·exact List.mem_of_getElem? hj
theorem dlt_none {l m:List Nat}{sp:List (List Nat)}{i c:Nat}{u:List Nat}(M:MSp l m sp)(hi:sp[i]?=some (spotsAt l u))(hc:c∈m)(h:dlt l sp i c=none):¬Inf (u++[c]) l:=by
 unfold dlt at h
 rw[hi]at h
 dsimp only at h
 intro hI
 have hb:behindL l (spotsAt l u) c≠[]:=by rw[←spots_snoc];exact spots_ne.mpr hI
 rw[if_neg hb]at h
 obtain⟨j,hj⟩:=List.mem_iff_getElem?.mp (M.clo i _ c hi hc hb)
 rw[idxS_ok M.nd hj]at h
 cases h
theorem dlt_some {l:List Nat}{sp:List (List Nat)}{i c j:Nat}{u:List Nat}(hi:sp[i]?=some (spotsAt l u))(h:dlt l sp i c=some j):Inf (u++[c]) l∧sp[j]?=some (spotsAt l (u++[c])):=by
 unfold dlt at h
 rw[hi]at h
 dsimp only at h
 by_cases hb:behindL l (spotsAt l u) c=[]
 ·rw[if_pos hb]at h;cases h
 ·rw[if_neg hb]at h
  exact⟨spots_ne.mp (by rw[spots_snoc];exact hb),by rw[spots_snoc];exact idxS_in h⟩
abbrev En:=List Nat×Nat×Nat
def bIn (d:Nat→Nat→Option Nat)(line:List En)(e:En):List Nat→List Nat ⊕ List En
 | []=>.inr line
 | c::cs=>match d e.2.1 c,d e.2.2 c with
  | none,none=>bIn d line e cs
  | some a,some b=>bIn d (if (a,b)∈line.map (·.2) then line else line++[(e.1++[c],a,b)]) e cs
  | _,_=>.inl (e.1++[c])
def bfs (d:Nat→Nat→Option Nat)(m:List Nat):Nat→List En→Nat→Option (List Nat)
 | 0,_,_=>none
 | n+1,line,k=>match line[k]? with
  | none=>none
  | some e=>match bIn d line e m with
   | .inl w=>some w
   | .inr line'=>bfs d m n line' (k+1)
def part (l m:List Nat)(sp:List (List Nat))(i j:Nat):Option (List Nat):=bfs (dlt l sp) m 1682 [([],i,j)] 0
section
variable {l m:List Nat}{sp:List (List Nat)}{u v:List Nat}
end
def allW (l:List Nat):List (List Nat):=(List.range (l.length+1)).flatMap (wordsOf l)
theorem mem_allW {l x:List Nat}:x∈allW l↔Inf x l:=by
 unfold allW
 rw[List.mem_flatMap]
 constructor
 ·rintro⟨n,hn,hx⟩
  have hn:=List.mem_range.mp hn
  exact((mem_wordsOf (by omega)).mp hx).2
 ·intro h
  have:=h.len
  exact⟨x.length,List.mem_range.mpr (by omega),(mem_wordsOf (by omega)).mpr ⟨rfl,h⟩⟩
theorem allW_nodup (l:List Nat):(allW l).Nodup:=by
 have key:∀i,i≤l.length+1→((List.range i).flatMap (wordsOf l)).Nodup∧∀x∈(List.range i).flatMap (wordsOf l),x.length<i:=fun i=>by
  induction i with
  | zero=>intro _;simp
  | succ i ih=>
   intro hi
   obtain⟨a,b⟩:=ih (by omega)
   have e:(List.range (i+1)).flatMap (wordsOf l)=(List.range i).flatMap (wordsOf l)++wordsOf l i:=by rw[List.range_succ,List.flatMap_append];simp
   rw[e]
   refine⟨?_,fun x hx=>?_⟩
   ·rw[List.nodup_append]
    refine⟨a,(words_sorted l i).imp fun {x y} h z=>by rw[z]at h;exact List.lt_irrefl _ h,fun x hx y hy z=>?_⟩
    have h1:=b x hx
    have h2:=((mem_wordsOf (by omega)).mp hy).1
    rw[z]at h1;omega
   ·rcases List.mem_append.mp hx with hx | hx
    ·have:=b x hx;omega
    ·have:=((mem_wordsOf (by omega)).mp hx).1;omega
 exact(key _ (Nat.le_refl _)).1
theorem nodup_same {a b:List (List Nat)}(ha:a.Nodup)(hb:b.Nodup)(h:∀x,x∈a↔x∈b):a.length=b.length:=
 Nat.le_antisymm (nodup_le a b ha fun x hx=>(h x).mp hx) (nodup_le b a hb fun x hx=>(h x).mpr hx)
def inR (l:List Nat)(sp:List (List Nat))(W:List (List Nat))(j:Nat):List (List Nat):=W.filter fun w=>decide (sp[j]?=some (spotsAt l w))
def kInt (j:Nat):Key:=.inl ((j:Nat):Int)
theorem kInt_inj {i j:Nat}(h:kInt i=kInt j):i=j:=by unfold kInt at h;injection h with h;omega
def CD (l:List Nat)(sp:List (List Nat))(W:List (List Nat))(js:List Nat):List (Key×V):=js.map fun j=>(kInt j,V.int (((inR l sp W j).length:Nat):Int))
structure CInv (l:List Nat)(sp:List (List Nat))(W:List (List Nat))(js:List Nat):Prop where
 nd:js.Nodup
 lt:∀j∈js,j<sp.length
 cov:∀w∈W,∃j∈js,sp[j]?=some (spotsAt l w)
 some_:∀j∈js,∃w∈W,sp[j]?=some (spotsAt l w)
theorem CInv.len {l:List Nat}{sp W:List (List Nat)}{js:List Nat}(h:CInv l sp W js):js.length≤sp.length:=by
 have:=nodup_le js (List.range sp.length) h.nd fun x hx=>List.mem_range.mpr (h.lt x hx)
 rwa [List.length_range]at this
theorem CD_len {l:List Nat}{sp W:List (List Nat)}{js:List Nat}:(CD l sp W js).length=js.length:=by unfold CD;rw[List.length_map]
theorem CD_val {l:List Nat}{sp W:List (List Nat)}{j:Nat}:∀ {js:List Nat},j∈js→valV (CD l sp W js) (kInt j)=some (.int (((inR l sp W j).length:Nat):Int))
 | [],h=>by cases h
 | i::js,h=>by
  show valV ((kInt i,_)::CD l sp W js) _=_
  by_cases e:i=j
  ·subst e;exact valV_pos rfl
  ·rw[valV_neg (fun z=>e (kInt_inj z))]
   exact CD_val ((List.mem_cons.mp h).resolve_left (Ne.symm e))
theorem CD_none {l:List Nat}{sp W:List (List Nat)}{j:Nat}:∀ {js:List Nat},j∉js→valV (CD l sp W js) (kInt j)=none
 | [],_=>rfl
 | i::js,h=>by
  show valV ((kInt i,_)::CD l sp W js) _=_
  rw[valV_neg (fun z=>h (by rw[kInt_inj z];simp))]
  exact CD_none fun z=>h (List.mem_cons_of_mem _ z)
theorem putK_in {l:List Nat}{sp W:List (List Nat)}{j:Nat}{js:List Nat}{v:V}(h:j∈js):putK (CD l sp W js) (kInt j) v=js.map fun i=>(kInt i,if i=j then v else V.int (((inR l sp W i).length:Nat):Int)):=by
 have hany:((CD l sp W js).any fun kv=>decide (kv.1=kInt j))=true:=by
  rw[List.any_eq_true]
  exact⟨_,List.mem_map_of_mem h,decide_eq_true rfl⟩
 unfold putK
 rw[if_pos hany]
 unfold CD
 rw[List.map_map]
 apply List.map_congr_left
 intro i _
 show (if kInt i=kInt j then (kInt i,v) else _)=_
 by_cases e:i=j
 ·rw[if_pos (by rw[e]),if_pos e]
 ·rw[if_neg (fun z=>e (kInt_inj z)),if_neg e]
theorem CInv.add {l:List Nat}{sp W B:List (List Nat)}{js:List Nat}{j:Nat}(h:CInv l sp W js)(ns:sp.Nodup)(hj:j<sp.length)(hB:∀w∈B,sp[j]?=some (spotsAt l w))(nB:B≠[]):
  ∃js',CInv l sp (W++B) js'∧putK (CD l sp W js) (kInt j) (.int ((((inR l sp W j).length+B.length:Nat):Nat):Int))=CD l sp (W++B) js':=by
 have fj:inR l sp (W++B) j=inR l sp W j++B:=by
  unfold inR
  rw[List.filter_append,List.filter_eq_self.mpr (fun w hw=>decide_eq_true (hB w hw))]
 have fo:∀i,i≠j→inR l sp (W++B) i=inR l sp W i:=fun i ne=>by
  unfold inR
  rw[List.filter_append]
  have:B.filter (fun w=>decide (sp[i]?=some (spotsAt l w)))=[]:=by
   rw[List.filter_eq_nil_iff]
   intro w hw z
   have z:=of_decide_eq_true z
   exact ne (nodup_at ns z (hB w hw))
  rw[this,List.append_nil]
 obtain⟨w0,hw0⟩:=List.exists_mem_of_ne_nil B nB
 by_cases hin:j∈js
 ·refine⟨js,⟨h.nd,h.lt,fun w hw=>?_,fun i hi=>?_⟩,?_⟩
  ·rcases List.mem_append.mp hw with hw | hw
   ·exact h.cov w hw
   ·exact⟨j,hin,hB w hw⟩
  ·obtain⟨w,hw,e⟩:=h.some_ i hi
   exact⟨w,List.mem_append_left _ hw,e⟩
  ·rw[putK_in hin]
   unfold CD
   apply List.map_congr_left
   intro i _
   by_cases e:i=j
   ·subst e;rw[if_pos rfl,fj,List.length_append]
   ·rw[if_neg e,fo i e]
 ·refine⟨js++[j],⟨?_,fun i hi=>?_,fun w hw=>?_,fun i hi=>?_⟩,?_⟩
  ·rw[List.nodup_append]
   refine⟨h.nd,by simp,fun a ha b hb=>?_⟩
   rw[List.mem_singleton.mp hb]
   exact fun z=>hin (z▸ha)
  ·rcases List.mem_append.mp hi with hi | hi
   ·exact h.lt i hi
   ·rw[List.mem_singleton.mp hi];exact hj
  ·rcases List.mem_append.mp hw with hw | hw
   ·obtain⟨i,hi,e⟩:=h.cov w hw
    exact⟨i,List.mem_append_left _ hi,e⟩
   ·exact⟨j,by simp,hB w hw⟩
  ·rcases List.mem_append.mp hi with hi | hi
   ·obtain⟨w,hw,e⟩:=h.some_ i hi
    exact⟨w,List.mem_append_left _ hw,e⟩
   ·rw[List.mem_singleton.mp hi]
    exact⟨w0,List.mem_append_right _ hw0,hB w0 hw0⟩
  ·rw[putK_new _ (CD_none hin)]
   unfold CD
   rw[List.map_append]
   have e1:js.map (fun i=>(kInt i,V.int (((inR l sp W i).length:Nat):Int)))=js.map fun i=>(kInt i,V.int (((inR l sp (W++B) i).length:Nat):Int)):=by
    apply List.map_congr_left
    intro i hi
    rw[fo i (fun z=>hin (z▸hi))]
   rw[e1]
   simp only[List.map_cons,List.map_nil]
   rw[fj,List.length_append]
theorem len_part (p:List Nat→Bool):∀(W:List (List Nat)),W.length=(W.filter p).length+(W.filter fun w=>!p w).length
 | []=>rfl
 | w::W=>by
  have ih:=len_part p W
  rw[List.filter_cons,List.filter_cons,List.length_cons]
  cases h:p w with
  | true=>simp;omega
  | false=>simp;omega
theorem CInv.sum {l:List Nat}{sp:List (List Nat)}(ns:sp.Nodup):∀(js:List Nat) (W:List (List Nat)),js.Nodup→(∀w∈W,∃j∈js,sp[j]?=some (spotsAt l w))→(js.map fun j=>(((inR l sp W j).length:Nat):Int)).sum=((W.length:Nat):Int)
 | [],W,_,h=>by
  cases W with
  | nil=>rfl
  | cons w W=>obtain⟨j,hj,_⟩:=h w List.mem_cons_self;cases hj
 | j::js,W,nd,h=>by
  have nd':=List.nodup_cons.mp nd
  have part:=len_part (fun w=>decide (sp[j]?=some (spotsAt l w)))
  have ih:=CInv.sum (l:=l) ns js (W.filter fun w=>!decide (sp[j]?=some (spotsAt l w))) nd'.2 fun w hw=>by
   obtain⟨hw1,hw2⟩:=List.mem_filter.mp hw
   obtain⟨i,hi,e⟩:=h w hw1
   rcases List.mem_cons.mp hi with rfl | hi
   ·rw[decide_eq_true e]at hw2;cases hw2
   ·exact⟨i,hi,e⟩
  rw[List.map_cons,List.sum_cons]
  have e2:(js.map fun i=>(((inR l sp W i).length:Nat):Int))=js.map fun i=>(((inR l sp (W.filter fun w=>!decide (sp[j]?=some (spotsAt l w))) i).length:Nat):Int):=by
   apply List.map_congr_left
   intro i hi
   congr 2
   unfold inR
   rw[List.filter_filter]
   apply List.filter_congr
   intro w _
   by_cases c:sp[i]?=some (spotsAt l w)
   ·have:¬sp[j]?=some (spotsAt l w):=fun z=>nd'.1 (by rw[←nodup_at ns c z];exact hi)
    rw[decide_eq_true c,decide_eq_false this];rfl
   ·rw[decide_eq_false c];rfl
  rw[e2,ih]
  have:=part W
  unfold inR
  omega
def WAll (l:List Nat)(k:Nat)(W:List (List Nat)):Prop:=W.Nodup∧∀x,x∈W↔x.length=k∧Inf x l
def WInv (l m:List Nat)(sp W0:List (List Nat))(js0:List Nat)(i q:Nat)(W:List (List Nat)):Prop:=W.Nodup∧∀x,x∈W↔Inf x l∧∃y c,x=y++[c]∧y∈W0∧c∈m∧∃j,sp[j]?=some (spotsAt l y)∧(j∈js0.take i∨(js0[i]?=some j∧c∈m.take q))
theorem WInv.start (l m:List Nat)(sp W0:List (List Nat))(js0:List Nat):WInv l m sp W0 js0 0 0 []:=by
 refine⟨by simp,fun x=>⟨fun h=>(by simp at h),?_⟩⟩
 rintro⟨_,y,c,_,_,_,j,_,h | ⟨_,h⟩⟩<;>simp at h
theorem snoc_inj {a b:List Nat}{c d:Nat}(h:a++[c]=b++[d]):a=b∧c=d:=by
 have:=List.append_inj' h rfl
 exact⟨this.1,by have:=this.2;injection this⟩
theorem takeN {α:Type}{l:List α}{i:Nat}{x:α}(h:l[i]?=some x):l.take (i+1)=l.take i++[x]:=by rw[List.take_succ,h];rfl
section
variable {l m:List Nat}{sp W0 W:List (List Nat)}{js0:List Nat}{i q j c:Nat}
theorem WInv.skip (M:MSp l m sp)(h:WInv l m sp W0 js0 i q W)(hj:js0[i]?=some j)(hc:m[q]?=some c)(hd:dlt l sp j c=none):WInv l m sp W0 js0 i (q+1) W:=by
 refine⟨h.1,fun x=>?_⟩
 rw[h.2,takeN hc]
 constructor
 ·rintro⟨a,y,d,e,b1,b2,k,b3,b4⟩
  refine⟨a,y,d,e,b1,b2,k,b3,b4.imp id fun ⟨z1,z2⟩=>⟨z1,List.mem_append_left _ z2⟩⟩
 ·rintro⟨a,y,d,e,b1,b2,k,b3,b4⟩
  refine⟨a,y,d,e,b1,b2,k,b3,?_⟩
  rcases b4 with b4 | ⟨z1,z2⟩
  ·exact .inl b4
  ·rcases List.mem_append.mp z2 with z2 | z2
   ·exact .inr ⟨z1,z2⟩
   ·rw[hj]at z1
    cases z1
    rw[List.mem_singleton.mp z2]at e b2
    rw[e]at a
    exact absurd a (dlt_none M b3 b2 hd)
theorem nodup_takeN {α:Type}{l:List α}{i:Nat}{x:α}(nd:l.Nodup)(h:l[i]?=some x):x∉l.take i:=by
 intro hx
 obtain⟨k,hk,e⟩:=List.mem_iff_getElem.mp hx
 obtain⟨hi,e2⟩:=List.getElem?_eq_some_iff.mp h
 rw[List.length_take]at hk
 rw[List.getElem_take]at e
 have hk':k<i:=by omega
 exact(List.pairwise_iff_getElem.mp nd) k i (by omega) hi hk' (e.trans e2.symm)
theorem WInv.more (M:MSp l m sp)(nm:m.Nodup)(nj:js0.Nodup)(n0:W0.Nodup)(h:WInv l m sp W0 js0 i q W)(hj:js0[i]?=some j)(hc:m[q]?=some c){j2:Nat}(hd:dlt l sp j c=some j2):
  WInv l m sp W0 js0 i (q+1) (W++(inR l sp W0 j).map fun y=>y++[c]):=by
 have cm:=List.mem_of_getElem? hc
 have inB:∀x,x∈(inR l sp W0 j).map (fun y=>y++[c])↔∃y,y∈W0∧sp[j]?=some (spotsAt l y)∧x=y++[c]:=fun x=>by
  rw[List.mem_map]
  constructor
  ·rintro⟨y,hy,rfl⟩
   have:=List.mem_filter.mp hy
   exact⟨y,this.1,of_decide_eq_true this.2,rfl⟩
  ·rintro⟨y,h1,h2,rfl⟩
   exact⟨y,List.mem_filter.mpr ⟨h1,decide_eq_true h2⟩,rfl⟩
 refine⟨?_,fun x=>?_⟩
 ·rw[List.nodup_append]
  refine⟨h.1,nodup_map (n0.filter _) fun x _ y _ e=>(snoc_inj e).1,fun x hx y hy e=>?_⟩
  obtain⟨y0,b1,b2,rfl⟩:=(inB y).mp hy
  rw[e]at hx
  obtain⟨_,y1,d,e1,a1,a2,k,a3,a4⟩:=(h.2 _).mp hx
  obtain⟨e2,e3⟩:=snoc_inj e1
  subst e2 e3
  have ek:k=j:=nodup_at M.nd a3 b2
  subst ek
  rcases a4 with a4 | ⟨_,a4⟩
  ·exact nodup_takeN nj hj a4
  ·exact nodup_takeN nm hc a4
 ·rw[List.mem_append,h.2,inB,takeN hc]
  constructor
  ·rintro (⟨a,y,d,e,b1,b2,k,b3,b4⟩|⟨y,b1,b2,rfl⟩)
   ·exact⟨a,y,d,e,b1,b2,k,b3,b4.imp id fun ⟨z1,z2⟩=>⟨z1,List.mem_append_left _ z2⟩⟩
   ·exact⟨(dlt_some b2 hd).1,y,c,rfl,b1,cm,j,b2,.inr ⟨hj,by simp⟩⟩
  ·rintro⟨a,y,d,e,b1,b2,k,b3,b4⟩
   rcases b4 with b4 | ⟨z1,z2⟩
   ·exact .inl ⟨a,y,d,e,b1,b2,k,b3,.inl b4⟩
   ·rcases List.mem_append.mp z2 with z2 | z2
    ·exact .inl ⟨a,y,d,e,b1,b2,k,b3,.inr ⟨z1,z2⟩⟩
    ·rw[hj]at z1
     cases z1
     rw[List.mem_singleton.mp z2]at e
     exact .inr ⟨y,b1,b3,e⟩
theorem WInv.next (h:WInv l m sp W0 js0 i m.length W)(hj:js0[i]?=some j):WInv l m sp W0 js0 (i+1) 0 W:=by
 refine⟨h.1,fun x=>?_⟩
 rw[h.2,takeN hj,List.take_length]
 constructor
 ·rintro⟨a,y,d,e,b1,b2,k,b3,b4⟩
  refine⟨a,y,d,e,b1,b2,k,b3,.inl ?_⟩
  rcases b4 with b4 | ⟨z1,_⟩
  ·exact List.mem_append_left _ b4
  ·rw[hj]at z1;cases z1;simp
 ·rintro⟨a,y,d,e,b1,b2,k,b3,b4⟩
  refine⟨a,y,d,e,b1,b2,k,b3,?_⟩
  rcases b4 with b4 | ⟨_,z⟩
  ·rcases List.mem_append.mp b4 with z | z
   ·exact .inl z
   ·rw[List.mem_singleton.mp z];exact .inr ⟨hj,b2⟩
  ·simp at z
theorem WInv.all {k:Nat}(hlm:∀x∈l,x∈m)(C:CInv l sp W0 js0)(A:WAll l k W0)(h:WInv l m sp W0 js0 js0.length 0 W):WAll l (k+1) W:=by
 refine⟨h.1,fun x=>?_⟩
 rw[h.2]
 constructor
 ·rintro⟨a,y,d,rfl,b1,_⟩
  refine⟨?_,a⟩
  rw[List.length_append,List.length_singleton,((A.2 y).mp b1).1]
 ·rintro⟨h1,h2⟩
  obtain⟨y,c,rfl⟩:∃y c,x=y++[c]:=by
   have hne:x≠[]:=fun z=>by rw[z]at h1;simp at h1
   exact⟨x.dropLast,x.getLast hne,(List.dropLast_concat_getLast hne).symm⟩
  have hy:y∈W0:=(A.2 y).mpr ⟨by simpa using h1,inf_pre h2⟩
  obtain⟨j,hj,e⟩:=C.cov y hy
  exact⟨h2,y,c,rfl,hy,hlm c (h2.mem (by simp)),j,e,.inl (by rw[List.take_length];exact hj)⟩
end
theorem CInv.zero {l:List Nat}{sp:List (List Nat)}(h0:sp[0]?=some (firstS l)):CInv l sp [[]] [0]:=by
 have hl:=(List.getElem?_eq_some_iff.mp h0).1
 have e:sp[0]?=some (spotsAt l []):=by rw[spots_nil];exact h0
 exact⟨by simp,fun j hj=>by rw[List.mem_singleton.mp hj];exact hl,fun w hw=>⟨0,by simp,by rw[List.mem_singleton.mp hw];exact e⟩,fun j hj=>⟨[],by simp,by rw[List.mem_singleton.mp hj];exact e⟩⟩
theorem WAll.zero (l:List Nat):WAll l 0 [[]]:=by
 refine⟨by simp,fun x=>?_⟩
 rw[List.mem_singleton]
 constructor
 ·rintro rfl;exact⟨rfl,Inf.nil l⟩
 ·rintro⟨h,_⟩;exact List.eq_nil_of_length_eq_zero h
theorem CD_zero {l:List Nat}{sp:List (List Nat)}(h0:sp[0]?=some (firstS l)):CD l sp [[]] [0]=[(kInt 0,.int 1)]:=by
 have e:sp[0]?=some (spotsAt l []):=by rw[spots_nil];exact h0
 unfold CD inR
 simp[e]
def TAll (l:List Nat)(k:Nat)(T:List (List Nat)):Prop:=T.Nodup∧∀x,x∈T↔x.length<k∧Inf x l
theorem TAll.zero (l:List Nat):TAll l 0 []:=⟨by simp,fun x=>by simp⟩
theorem TAll.step {l:List Nat}{k:Nat}{T W:List (List Nat)}(h:TAll l k T)(A:WAll l k W):TAll l (k+1) (T++W):=by
 refine⟨?_,fun x=>?_⟩
 ·rw[List.nodup_append]
  refine⟨h.1,A.1,fun x hx y hy z=>?_⟩
  have h1:=((h.2 x).mp hx).1
  have h2:=((A.2 y).mp hy).1
  rw[z]at h1;omega
 ·rw[List.mem_append,h.2,A.2]
  constructor
  ·rintro (⟨a,b⟩|⟨a,b⟩)
   ·exact⟨by omega,b⟩
   ·exact⟨by omega,b⟩
  ·rintro⟨a,b⟩
   by_cases c:x.length<k
   ·exact .inl ⟨c,b⟩
   ·exact .inr ⟨by omega,b⟩
theorem TAll.end_ {l:List Nat}{k:Nat}{T:List (List Nat)}(h:TAll l k T)(A:WAll l k []):T.length=(allW l).length:=by
 refine nodup_same h.1 (allW_nodup l) fun x=>?_
 rw[h.2,mem_allW]
 constructor
 ·exact fun z=>z.2
 ·intro z
  refine⟨?_,z⟩
  by_cases c:x.length<k
  ·exact c
  ·exfalso
   have:x.take k∈([]:List (List Nat)):=(A.2 _).mpr ⟨by rw[List.length_take];omega,by
    have e:=List.take_append_drop k x
    rw[←e]at z
    exact inf_pre z⟩
   cases this
theorem preSum_list (ns:List Int):∀j,j≤ns.length→preSum (fun i=>ns.getD i 0) j=(ns.take j).sum
 | 0,_=>by simp[preSum]
 | j+1,h=>by
  have e:ns.take (j+1)=ns.take j++[ns[j]]:=by rw[List.take_succ,List.getElem?_eq_getElem (by omega)];rfl
  rw[preSum,preSum_list ns j (by omega),e,List.sum_append,List.getD_eq_getElem?_getD,List.getElem?_eq_getElem (by omega)]
  simp
def tSumV (td:TE):TE:=fun σ H Q=>td σ H fun x H1=>∃(a:Addr) (kvs:List (Key×V)) (ns:List Int),x=.ref a∧H1 a=some (.dK kvs)∧kvs.map (·.2)=ns.map V.int∧Q (.int ns.sum) H1
section
variable {X:Cx}{o:Expr}{td:TE}{p pos ap cp:Pos}
theorem pe_sumValues (hc:X.calm=true) (hg:Gl X "sum") (hm:X.mg "sum"=none) (ho:PE X o td) (hbase:attributeBase o "values" X.env (eval o X.env)=eval o X.env:=by rfl) (hline:(ap.endLine == cp.line)=true:=by rfl)
  (hs:starEach [.Call (.Attribute o "values" ap) [] [] cp] X.env=[(false,eval (.Call (.Attribute o "values" ap) [] [] cp) X.env)]:=by rfl):
  PE X (.Call (.Name "sum" p) [.Call (.Attribute o "values" ap) [] [] cp] [] pos) (tSumV td):=by
 intro pins s σ H Q I h
 refine wpAny_Call_Name_kw (ld_blt I hg hm bt_sum ?_)
 refine PyProof.Rows.callWith_builtin1 ?_ hs rfl
 rw[hs]
 show wpAny _ _ (spliced ((false,eval (.Call (.Attribute o "values" ap) [] [] cp) X.env)::backTo pos (starEach [] X.env))) _ _ s
 refine Calls.spliced_cons ?_
 refine wpAny_Call_method (T:="dict") (id:="dict.values") hbase rfl hline PySem.F.plainAttrs_dict PySem.F.slot_dict_values PySem.F.type_dict_values (thn (ho pins s σ H _ I h) fun u s1 ⟨x,H1,I1,rx,a,kvs,ns,ex,ha,hv,q⟩=>?_)
 subst ex
 obtain rfl:u=Value.ref a:=rx
 obtain⟨hz,hd,vs,r,dd⟩:=dk_of I1.hok ha
 obtain⟨ob,es,ep,e1,e2,e3,e4⟩:=id dd
 refine⟨dd.typeIs,fun b z=>?_,?_⟩
 ·cases z
  exact⟨ob,e1,e2.2.1⟩
 refine method_meetsIn PySem.F.slot_dict_values PySem.F.entry_dict_values rfl (PySem.evalArgs_none ⟨rfl,dd.typeIs,PySem.F.args_dict_values_1 _,_,meets_dict_values _ a hd,⟨vs,dd⟩,Calls.spliced_nil ?_⟩)
 generalize hg2:s1.heap.push { cls:=.type "dict_values",data:=.fields #[.ref a] }=g2
 have k2:∀b o,s1.heap.get? b=some o→g2.get? b=some o:=fun b o e=>by rw[←hg2];exact Heap.get?_push_of_some _ e
 have vw:g2.IsValuesView s1.heap.objs.size a:=⟨_,by rw[←hg2];exact Heap.get?_push_size _ rfl,rfl,rfl⟩
 have da:g2.DictAt (mixKind X.prog X.w) a vs ep:=⟨ob,es,k2 _ _ e1,e2,e3,e4⟩
 have K:=kdl_values (prog:=X.prog) (w:=X.w) (knd:=mixKind X.prog X.w) (r:=s1.heap.objs.size) (d:=a) (kvs:=vs) (ep:=ep)
 have hh:X.A.in1.handled=none:=by simpa using I1.ok.hd hc
 have hl:vs.length=ns.length:=by
  have h1:=r.length
  have h2:=congrArg List.length hv
  rw[List.length_map,List.length_map]at h2
  omega
 have hval:∀(i:Nat) (v:Value),(∃k,vs[i]?=some (k,v))→∃t:Tok,v=Value.int (ns.getD i 0) t:=by
  rintro i v ⟨k,hk⟩
  have hi:=(List.getElem?_eq_some_iff.mp hk).1
  have:∀(kvs:List (Key×V)) (vs:List (Key×Value)),KV kvs vs→∀(i:Nat) (k:Key) (v:Value),vs[i]?=some (k,v)→∃x,kvs[i]?=some (k,x)∧RelV x v:=fun kvs vs r=>by
   induction r with
   | nil=>intro i k v z;simp at z
   | cons hd _ ih=>
    intro i k v z
    cases i with
    | zero=>
     rename_i p0 q0 _ _ _
     have z:q0=(k,v):=by simpa using z
     subst z
     exact⟨p0.2,by show some p0=some (k,p0.2);rw[show k=p0.1 from hd.1.symm],hd.2⟩
    | succ i=>
     obtain⟨x,hx,rx⟩:=ih i k v (by simpa using z)
     exact⟨x,by simpa using hx,rx⟩
  obtain⟨x,hx,rx⟩:=this kvs vs r i k v hk
  have ex:(kvs.map (·.2))[i]?=some x:=by rw[List.getElem?_map,hx];rfl
  rw[hv,List.getElem?_map,List.getElem?_eq_getElem (by omega)]at ex
  have ex:V.int ns[i]=x:=Option.some.inj ex
  subst ex
  obtain⟨t,rfl⟩:=rx
  exact⟨t,by rw[List.getD_eq_getElem?_getD,List.getElem?_eq_getElem (by omega)];rfl⟩
 refine call_sum_walkAnyS ?_
 obtain⟨oI,St,hit,W,st⟩:=K.iter X.A.in1 { s1 with heap:=g2 } hh ⟨vw,da⟩
 have hlt:=K.there _ (show g2.IsValuesView s1.heap.objs.size a∧g2.DictAt (mixKind X.prog X.w) a vs ep from⟨vw,da⟩)
 refine hit _ _ ⟨g2.objs.size,_,_,_,vs.length,_,_,fun i=>ns.getD i 0,rfl,W.toS,st,fun b hb=>?_,hval,fun s' t' hm=>?_⟩
 ·show b<(g2.push oI).objs.size
  rw[size_push']
  rcases List.mem_cons.mp hb with e | hb
  ·rw[e];exact Nat.lt_succ_self _
  ·rw[List.mem_singleton.mp hb];exact Nat.lt_succ_of_lt hlt.2
 ·have hk:∀b o,s1.heap.get? b=some o→s'.heap.get? b=some o:=fun b o e=>
   hm.heap b o (fun hI=>absurd (Heap.lt_size (k2 _ _ e)) (by rw[List.mem_singleton.mp hI];exact Nat.lt_irrefl _)) (Heap.get?_push_of_some _ (k2 _ _ e))
  rw[Moved.eq_with hm,hl,preSum_list ns _ (Nat.le_refl _),List.take_length]
  exact⟨.int ns.sum,H1,I1.kept (t':=s'.toks) hk,⟨t',rfl⟩,q⟩
end
end L2
namespace L2
open PySem PySem.Spec PyProof.Rows
section
variable {X:Cx}{es:List Expr}{x1:Nat}{tp:Pos}
end
end L2
namespace L2
open PySem PySem.Spec PyProof.Rows PySem.W
def Itv (o:Obj)(kvs:List (Key×V))(a:Addr):It:=
 ⟨fun i H=>H a=some (.frz o (.dK kvs))∧i<kvs.length,fun i H x H'=>H'=H∧∃p,kvs[i]?=some p∧x=p.2,fun i H=>H a=some (.frz o (.dK kvs))∧kvs.length≤i⟩
def Iti (o:Obj)(kvs:List (Key×V))(a:Addr):It:=
 ⟨fun i H=>H a=some (.frz o (.dK kvs))∧i<kvs.length,fun i H x H'=>∃t p,H t=none∧x=.ref t∧H'=upd H t (.tup [kV p.1,p.2])∧kvs[i]?=some p,fun i H=>H a=some (.frz o (.dK kvs))∧kvs.length≤i⟩
section
variable {X:Cx}{tg:Expr}{o:Expr}{td:TE}{ap cp:Pos}
def iVals (td:TE):TI:=fun σ H R=>td σ H fun x H1=>∃a kvs,x=.ref a∧H1 a=some (.dK kvs)∧∀o,R (Itv o kvs a) (upd H1 a (.frz o (.dK kvs)))
variable {els:List Expr}{x1:Nat}{tp:Pos}
def iItems (td:TE):TI:=fun σ H R=>td σ H fun x H1=>∃a kvs,x=.ref a∧H1 a=some (.dK kvs)∧∀o,R (Iti o kvs a) (upd H1 a (.frz o (.dK kvs)))
end
section
variable {g:TG}{tb:TS}{D:Ends}{σ:St}{H:Hp}{o:Obj}{kvs:List (Key×V)}{a:Addr}
end
section
variable {Q:VK}{τ0:St}{H:Hp}{o:Obj}{kvs:List (Key×V)}{a:Addr}{te:TE}
end
section
variable {te:TE}{Q:VK}{τ0:St}{H:Hp}{K:Frag}{a:Addr}{xs:List V}
end
end L2
namespace L2
open PySem PySem.Spec PyProof.Rows
def tHold (t:TS):TS:=t
theorem pss_hold {X:Cx}{st:List Stmt}{t:TS}(h:PSs X st t):PSs X st (tHold t):=h
theorem hold_of {t:TS}{D:Ends}{σ:St}{H:Hp}(h:t D σ H):tHold t D σ H:=h
section
variable {X:Cx}
def tLst1x (t:TX):TX:=fun σ H Q E=>t σ H (fun x H1=>1≤sizeLine∧NewL [x] H1 Q) E
end
end L2
namespace L2
open PySem PySem.Spec PyProof.Rows PySem.W
end L2
namespace L2
open PySem PySem.Spec PyProof.Rows
open PySem.W (Frag)
section
variable {X:Cx}
end
theorem eqT_same {K:Frag}{H:Hp}{Q:VK}{a b:Addr}{vs:List V}(h1:SqT K H a vs)(h2:SqT K H b vs)(hf:vs.all flatV=true)(q:Q (.bl true) H):rEqD K false (.ref a) (.ref b) H Q:=
 .inr ⟨_,_,datT h1 hf,datT h2 hf,fun z=>Bool.false_ne_true z.1,(ownT h1 hf).2.2,by rw[(ownT h1 hf).2.1];exact q⟩
end L2
set_option maxHeartbeats 400000000
namespace Pk15
open PySem L2
def top (i:Nat):Stmt:=PySem.Challenge.pw_lackword_k15_machines_refused.main.body.getD i (.Pass ⟨0,0,0,0⟩)
abbrev s_has_only:Stmt:=top 10
abbrev s_is_kinds:Stmt:=top 11
abbrev s_is_word:Stmt:=top 12
abbrev s_is_letter:Stmt:=top 13
abbrev s_need_kinds:Stmt:=top 14
abbrev s_need_word:Stmt:=top 15
abbrev s_need_letter:Stmt:=top 16
abbrev s_is_within:Stmt:=top 18
abbrev s_first_spots:Stmt:=top 20
abbrev s_spots_behind:Stmt:=top 21
abbrev s_rooms_of:Stmt:=top 22
abbrev s_lcell:Stmt:=top 25
abbrev s_mixed:Stmt:=top 26
abbrev s_lkinds:Stmt:=top 27
abbrev s_drawn:Stmt:=top 28
abbrev s_ltext:Stmt:=top 29
abbrev s_badk:Stmt:=top 30
abbrev s_badw:Stmt:=top 31
abbrev s_badr:Stmt:=top 32
abbrev s_badl:Stmt:=top 33
abbrev s_told:Stmt:=top 34
abbrev s_made:Stmt:=top 35
abbrev s_asked:Stmt:=top 36
abbrev s_alike:Stmt:=top 37
abbrev s_right:Stmt:=top 38
abbrev s_law:Stmt:=top 39
abbrev s_NoWord_init:Stmt:=inClass (top 2) 0
abbrev s_NoRoom_init:Stmt:=inClass (top 3) 0
abbrev s_Machine_init:Stmt:=inClass (top 23) 0
abbrev s_Machine_rooms:Stmt:=inClass (top 23) 1
abbrev s_Machine_need_room:Stmt:=inClass (top 23) 2
abbrev s_Machine_led:Stmt:=inClass (top 23) 3
abbrev s_Machine_way:Stmt:=inClass (top 23) 4
abbrev s_Machine_room_of:Stmt:=inClass (top 23) 5
abbrev s_Machine_word_to:Stmt:=inClass (top 23) 6
abbrev s_Machine_parting:Stmt:=inClass (top 23) 7
abbrev s_Machine_ways:Stmt:=inClass (top 23) 8
abbrev s_Machine_counts_behind:Stmt:=inClass (top 23) 9
structure Ad where
 c_LackError:Addr
 c_NoWord:Addr
 c_NoRoom:Addr
 c_NoKinds:Addr
 c_Machine:Addr
 g_NoWord_init:Addr
 e_NoWord_init:FuncData
 g_NoRoom_init:Addr
 e_NoRoom_init:FuncData
 g_Machine_init:Addr
 e_Machine_init:FuncData
 g_Machine_rooms:Addr
 e_Machine_rooms:FuncData
 g_Machine_need_room:Addr
 e_Machine_need_room:FuncData
 g_Machine_led:Addr
 e_Machine_led:FuncData
 g_Machine_way:Addr
 e_Machine_way:FuncData
 g_Machine_room_of:Addr
 e_Machine_room_of:FuncData
 g_Machine_word_to:Addr
 e_Machine_word_to:FuncData
 g_Machine_parting:Addr
 e_Machine_parting:FuncData
 g_Machine_ways:Addr
 e_Machine_ways:FuncData
 g_Machine_counts_behind:Addr
 e_Machine_counts_behind:FuncData
 f_has_only:Addr
 d_has_only:FuncData
 f_is_kinds:Addr
 d_is_kinds:FuncData
 f_is_word:Addr
 d_is_word:FuncData
 f_is_letter:Addr
 d_is_letter:FuncData
 f_need_kinds:Addr
 d_need_kinds:FuncData
 f_need_word:Addr
 d_need_word:FuncData
 f_need_letter:Addr
 d_need_letter:FuncData
 f_is_within:Addr
 d_is_within:FuncData
 f_first_spots:Addr
 d_first_spots:FuncData
 f_spots_behind:Addr
 d_spots_behind:FuncData
 f_rooms_of:Addr
 d_rooms_of:FuncData
 f_lcell:Addr
 d_lcell:FuncData
 f_mixed:Addr
 d_mixed:FuncData
 f_lkinds:Addr
 d_lkinds:FuncData
 f_drawn:Addr
 d_drawn:FuncData
 f_ltext:Addr
 d_ltext:FuncData
 f_badk:Addr
 d_badk:FuncData
 f_badw:Addr
 d_badw:FuncData
 f_badr:Addr
 d_badr:FuncData
 f_badl:Addr
 d_badl:FuncData
 f_told:Addr
 d_told:FuncData
 f_made:Addr
 d_made:FuncData
 f_asked:Addr
 d_asked:FuncData
 f_alike:Addr
 d_alike:FuncData
 f_right:Addr
 d_right:FuncData
 f_law:Addr
 d_law:FuncData
structure Txt (K:PySem.W.Frag)(mg:Str→Option Value)(a:Ad):Prop where
 m_has_only:mg "has_only"=some (.ref a.f_has_only)
 f_has_only:Fun K "has_only" "has_only" s_has_only a.f_has_only a.d_has_only
 b_has_only:Binds K a.d_has_only ["text","letters"] []
 m_is_kinds:mg "is_kinds"=some (.ref a.f_is_kinds)
 f_is_kinds:Fun K "is_kinds" "is_kinds" s_is_kinds a.f_is_kinds a.d_is_kinds
 b_is_kinds:Binds K a.d_is_kinds ["thing"] []
 m_is_word:mg "is_word"=some (.ref a.f_is_word)
 f_is_word:Fun K "is_word" "is_word" s_is_word a.f_is_word a.d_is_word
 b_is_word:Binds K a.d_is_word ["thing","kinds","most"] []
 m_is_letter:mg "is_letter"=some (.ref a.f_is_letter)
 f_is_letter:Fun K "is_letter" "is_letter" s_is_letter a.f_is_letter a.d_is_letter
 b_is_letter:Binds K a.d_is_letter ["thing","kinds"] []
 m_need_kinds:mg "need_kinds"=some (.ref a.f_need_kinds)
 f_need_kinds:Fun K "need_kinds" "need_kinds" s_need_kinds a.f_need_kinds a.d_need_kinds
 b_need_kinds:Binds K a.d_need_kinds ["thing"] []
 m_need_word:mg "need_word"=some (.ref a.f_need_word)
 f_need_word:Fun K "need_word" "need_word" s_need_word a.f_need_word a.d_need_word
 b_need_word:Binds K a.d_need_word ["thing","kinds","most"] []
 m_need_letter:mg "need_letter"=some (.ref a.f_need_letter)
 f_need_letter:Fun K "need_letter" "need_letter" s_need_letter a.f_need_letter a.d_need_letter
 b_need_letter:Binds K a.d_need_letter ["thing","kinds"] []
 m_is_within:mg "is_within"=some (.ref a.f_is_within)
 f_is_within:Fun K "is_within" "is_within" s_is_within a.f_is_within a.d_is_within
 b_is_within:Binds K a.d_is_within ["thing","least","most"] []
 m_first_spots:mg "first_spots"=some (.ref a.f_first_spots)
 f_first_spots:Fun K "first_spots" "first_spots" s_first_spots a.f_first_spots a.d_first_spots
 b_first_spots:Binds K a.d_first_spots ["text"] []
 m_spots_behind:mg "spots_behind"=some (.ref a.f_spots_behind)
 f_spots_behind:Fun K "spots_behind" "spots_behind" s_spots_behind a.f_spots_behind a.d_spots_behind
 b_spots_behind:Binds K a.d_spots_behind ["text","spots","letter"] []
 m_rooms_of:mg "rooms_of"=some (.ref a.f_rooms_of)
 f_rooms_of:Fun K "rooms_of" "rooms_of" s_rooms_of a.f_rooms_of a.d_rooms_of
 b_rooms_of:Binds K a.d_rooms_of ["text","kinds"] []
 m_lcell:mg "_law_cell_at"=some (.ref a.f_lcell)
 f_lcell:Fun K "_law_cell_at" "_law_cell_at" s_lcell a.f_lcell a.d_lcell
 b_lcell:Binds K a.d_lcell ["_law_script","_law_k"] []
 m_mixed:mg "_law_mixed"=some (.ref a.f_mixed)
 f_mixed:Fun K "_law_mixed" "_law_mixed" s_mixed a.f_mixed a.d_mixed
 b_mixed:Binds K a.d_mixed ["_law_cell","_law_k"] []
 m_lkinds:mg "_law_kinds"=some (.ref a.f_lkinds)
 f_lkinds:Fun K "_law_kinds" "_law_kinds" s_lkinds a.f_lkinds a.d_lkinds
 b_lkinds:Binds K a.d_lkinds ["_law_cell"] []
 m_drawn:mg "_law_drawn"=some (.ref a.f_drawn)
 f_drawn:Fun K "_law_drawn" "_law_drawn" s_drawn a.f_drawn a.d_drawn
 b_drawn:Binds K a.d_drawn ["_law_cell","_law_by_digits","_law_kinds_here","_law_many"] []
 m_ltext:mg "_law_text"=some (.ref a.f_ltext)
 f_ltext:Fun K "_law_text" "_law_text" s_ltext a.f_ltext a.d_ltext
 b_ltext:Binds K a.d_ltext ["_law_cell","_law_way","_law_kinds_here","_law_most"] []
 m_badk:mg "_law_bad_kinds"=some (.ref a.f_badk)
 f_badk:Fun K "_law_bad_kinds" "_law_bad_kinds" s_badk a.f_badk a.d_badk
 b_badk:Binds K a.d_badk ["_law_x"] []
 m_badw:mg "_law_bad_word"=some (.ref a.f_badw)
 f_badw:Fun K "_law_bad_word" "_law_bad_word" s_badw a.f_badw a.d_badw
 b_badw:Binds K a.d_badw ["_law_x","_law_kinds_here","_law_most"] []
 m_badr:mg "_law_bad_room"=some (.ref a.f_badr)
 f_badr:Fun K "_law_bad_room" "_law_bad_room" s_badr a.f_badr a.d_badr
 b_badr:Binds K a.d_badr ["_law_x","_law_many"] []
 m_badl:mg "_law_bad_letter"=some (.ref a.f_badl)
 f_badl:Fun K "_law_bad_letter" "_law_bad_letter" s_badl a.f_badl a.d_badl
 b_badl:Binds K a.d_badl ["_law_x","_law_kinds_here"] []
 m_told:mg "_law_told"=some (.ref a.f_told)
 f_told:Fun K "_law_told" "_law_told" s_told a.f_told a.d_told
 b_told:Binds K a.d_told ["_law_error"] []
 m_made:mg "_law_made"=some (.ref a.f_made)
 f_made:Fun K "_law_made" "_law_made" s_made a.f_made a.d_made
 b_made:Binds K a.d_made ["_law_text_here","_law_kinds_here"] []
 m_asked:mg "_law_asked"=some (.ref a.f_asked)
 f_asked:Fun K "_law_asked" "_law_asked" s_asked a.f_asked a.d_asked
 b_asked:Binds K a.d_asked ["_law_machine","_law_way","_law_one","_law_other"] []
 m_alike:mg "_law_alike"=some (.ref a.f_alike)
 f_alike:Fun K "_law_alike" "_law_alike" s_alike a.f_alike a.d_alike
 b_alike:Binds K a.d_alike ["_law_found","_law_word","_law_thing"] []
 m_right:mg "_law_right"=some (.ref a.f_right)
 f_right:Fun K "_law_right" "_law_right" s_right a.f_right a.d_right
 b_right:Binds K a.d_right ["_law_machine","_law_kinds_here","_law_x","_law_y"] []
 m_law:mg "law"=some (.ref a.f_law)
 f_law:Fun K "law" "law" s_law a.f_law a.d_law
 b_law:Binds K a.d_law ["_law_script"] []
 m_LackError:mg "LackError"=some (.ref a.c_LackError)
 x_LackError:Xm K a.c_LackError
 xi_LackError:Xi K a.c_LackError
 k_LackError:ClsOk K a.c_LackError [.ref a.c_LackError,.type "ValueError",.type "Exception",.type "BaseException",.type "object"]
 i_LackError:PySem.W.findIn K (.ref a.c_LackError) "__init__"=some (some (.builtin "ValueError.__init__"))
 r_LackError:ClsRead K a.c_LackError "__init__" (.builtin "ValueError.__init__")
 m_NoWord:mg "NoWord"=some (.ref a.c_NoWord)
 x_NoWord:Xm K a.c_NoWord
 xi_NoWord:Xi K a.c_NoWord
 k_NoWord:ClsOk K a.c_NoWord [.ref a.c_NoWord,.ref a.c_LackError,.type "ValueError",.type "Exception",.type "BaseException",.type "object"]
 i_NoWord:PySem.W.findIn K (.ref a.c_NoWord) "__init__"=some (some (.ref a.g_NoWord_init))
 fn_NoWord:PySem.W.isFn K (.ref a.g_NoWord_init)=true
 n_NoWord_word:NoAttr K a.c_NoWord "word"
 fi_NoWord:Fun K "__init__" "NoWord.__init__" s_NoWord_init a.g_NoWord_init a.e_NoWord_init
 b_NoWord:Binds K a.e_NoWord_init ["self","word"] []
 m_NoRoom:mg "NoRoom"=some (.ref a.c_NoRoom)
 x_NoRoom:Xm K a.c_NoRoom
 xi_NoRoom:Xi K a.c_NoRoom
 k_NoRoom:ClsOk K a.c_NoRoom [.ref a.c_NoRoom,.ref a.c_LackError,.type "ValueError",.type "Exception",.type "BaseException",.type "object"]
 i_NoRoom:PySem.W.findIn K (.ref a.c_NoRoom) "__init__"=some (some (.ref a.g_NoRoom_init))
 fn_NoRoom:PySem.W.isFn K (.ref a.g_NoRoom_init)=true
 n_NoRoom_room:NoAttr K a.c_NoRoom "room"
 fi_NoRoom:Fun K "__init__" "NoRoom.__init__" s_NoRoom_init a.g_NoRoom_init a.e_NoRoom_init
 b_NoRoom:Binds K a.e_NoRoom_init ["self","room"] []
 m_NoKinds:mg "NoKinds"=some (.ref a.c_NoKinds)
 x_NoKinds:Xm K a.c_NoKinds
 xi_NoKinds:Xi K a.c_NoKinds
 k_NoKinds:ClsOk K a.c_NoKinds [.ref a.c_NoKinds,.ref a.c_LackError,.type "ValueError",.type "Exception",.type "BaseException",.type "object"]
 i_NoKinds:PySem.W.findIn K (.ref a.c_NoKinds) "__init__"=some (some (.builtin "ValueError.__init__"))
 m_Machine:mg "Machine"=some (.ref a.c_Machine)
 cr_Machine:ClsRead K a.c_Machine "__init__" (.ref a.g_Machine_init)
 cl_Machine:Cls K a.c_Machine
 mk_Machine:Mk K a.c_Machine a.g_Machine_init
 me_Machine_rooms:Meth K a.c_Machine "rooms" a.g_Machine_rooms
 me_Machine_need_room:Meth K a.c_Machine "need_room" a.g_Machine_need_room
 me_Machine_led:Meth K a.c_Machine "led" a.g_Machine_led
 me_Machine_way:Meth K a.c_Machine "way" a.g_Machine_way
 me_Machine_room_of:Meth K a.c_Machine "room_of" a.g_Machine_room_of
 me_Machine_word_to:Meth K a.c_Machine "word_to" a.g_Machine_word_to
 me_Machine_parting:Meth K a.c_Machine "parting" a.g_Machine_parting
 me_Machine_ways:Meth K a.c_Machine "ways" a.g_Machine_ways
 me_Machine_counts_behind:Meth K a.c_Machine "counts_behind" a.g_Machine_counts_behind
 n_Machine_own_kinds:NoAttr K a.c_Machine "own_kinds"
 n_Machine_own_rooms:NoAttr K a.c_Machine "own_rooms"
 ty_Machine:∀ {H:Hp} {x dx:Addr} {fs:List (Str×V)},H x=some (.ins a.c_Machine dx fs)→TyOf K H (.ref x) (.ref a.c_Machine)
 fm_Machine_init:Fun K "__init__" "Machine.__init__" s_Machine_init a.g_Machine_init a.e_Machine_init
 kp_Machine_init:PySem.W.keepIn K (.ref a.g_Machine_init)=true
 b_Machine_init:Binds K a.e_Machine_init ["self","text","kinds"] []
 fm_Machine_rooms:Fun K "rooms" "Machine.rooms" s_Machine_rooms a.g_Machine_rooms a.e_Machine_rooms
 kp_Machine_rooms:PySem.W.keepIn K (.ref a.g_Machine_rooms)=true
 b_Machine_rooms:Binds K a.e_Machine_rooms ["self"] []
 fm_Machine_need_room:Fun K "need_room" "Machine.need_room" s_Machine_need_room a.g_Machine_need_room a.e_Machine_need_room
 kp_Machine_need_room:PySem.W.keepIn K (.ref a.g_Machine_need_room)=true
 b_Machine_need_room:Binds K a.e_Machine_need_room ["self","room"] []
 fm_Machine_led:Fun K "led" "Machine.led" s_Machine_led a.g_Machine_led a.e_Machine_led
 kp_Machine_led:PySem.W.keepIn K (.ref a.g_Machine_led)=true
 b_Machine_led:Binds K a.e_Machine_led ["self","room","letter"] []
 fm_Machine_way:Fun K "way" "Machine.way" s_Machine_way a.g_Machine_way a.e_Machine_way
 kp_Machine_way:PySem.W.keepIn K (.ref a.g_Machine_way)=true
 b_Machine_way:Binds K a.e_Machine_way ["self","room","letter"] []
 fm_Machine_room_of:Fun K "room_of" "Machine.room_of" s_Machine_room_of a.g_Machine_room_of a.e_Machine_room_of
 kp_Machine_room_of:PySem.W.keepIn K (.ref a.g_Machine_room_of)=true
 b_Machine_room_of:Binds K a.e_Machine_room_of ["self","word"] []
 fm_Machine_word_to:Fun K "word_to" "Machine.word_to" s_Machine_word_to a.g_Machine_word_to a.e_Machine_word_to
 kp_Machine_word_to:PySem.W.keepIn K (.ref a.g_Machine_word_to)=true
 b_Machine_word_to:Binds K a.e_Machine_word_to ["self","room"] []
 fm_Machine_parting:Fun K "parting" "Machine.parting" s_Machine_parting a.g_Machine_parting a.e_Machine_parting
 kp_Machine_parting:PySem.W.keepIn K (.ref a.g_Machine_parting)=true
 b_Machine_parting:Binds K a.e_Machine_parting ["self","room","other"] []
 fm_Machine_ways:Fun K "ways" "Machine.ways" s_Machine_ways a.g_Machine_ways a.e_Machine_ways
 kp_Machine_ways:PySem.W.keepIn K (.ref a.g_Machine_ways)=true
 b_Machine_ways:Binds K a.e_Machine_ways ["self"] []
 fm_Machine_counts_behind:Fun K "counts_behind" "Machine.counts_behind" s_Machine_counts_behind a.g_Machine_counts_behind a.e_Machine_counts_behind
 kp_Machine_counts_behind:PySem.W.keepIn K (.ref a.g_Machine_counts_behind)=true
 b_Machine_counts_behind:Binds K a.e_Machine_counts_behind ["self","counts"] []
 nd:[a.c_LackError,a.c_NoWord,a.c_NoRoom,a.c_NoKinds].Nodup
 z_len:mg "len"=none
 z_range:mg "range"=none
 z_isinstance:mg "isinstance"=none
 z_all:mg "all"=none
 z_max:mg "max"=none
 z_min:mg "min"=none
 z_list:mg "list"=none
 z_tuple:mg "tuple"=none
 z_set:mg "set"=none
 z_sorted:mg "sorted"=none
 z_str:mg "str"=none
 z_int:mg "int"=none
 z_bool:mg "bool"=none
 z_sum:mg "sum"=none
 z_ValueError:mg "ValueError"=none
 c_SMALL_LETTERS:∃t,mg "SMALL_LETTERS"=some (.str (Str.ofString "abcdefghijklmnopqrstuvwxyz") t)
 c_MOST_KINDS:∃t,mg "MOST_KINDS"=some (.int 4 t)
 c_MOST_IN_STRIP:∃t,mg "MOST_IN_STRIP"=some (.int 40 t)
 c_MOST_ASKED:∃t,mg "MOST_ASKED"=some (.int 60 t)
 bl:∀(s:Shared) (u:Value),BindsTo s a.d_law ⟨[u],[]⟩ [("_law_script",u)]
theorem txt_mk {K:PySem.W.Frag}{h:Heap}{mg:Str→Option Value}(X:K.In h)(G:h.Ns mainGlobals mg){c_LackError:Addr}{cd_LackError:ClassData}{nm_LackError qn_LackError:Str}{N_LackError:Addr}{bs_LackError bm_LackError:List Value}{hdct_LackError:Bool}{sn_LackError:List Str}{sub_LackError:List Value}{ab_LackError:Bool}{col_LackError:Option Bool}{dd_LackError:Option Addr}{k0_LackError k1_LackError k2_LackError k3_LackError k5_LackError:Option Value}{c_NoWord:Addr}{cd_NoWord:ClassData}{nm_NoWord qn_NoWord:Str}{N_NoWord:Addr}{bs_NoWord bm_NoWord:List Value}{hdct_NoWord:Bool}{sn_NoWord:List Str}{sub_NoWord:List Value}{ab_NoWord:Bool}{col_NoWord:Option Bool}{dd_NoWord:Option Addr}{k0_NoWord k1_NoWord k2_NoWord k3_NoWord k5_NoWord:Option Value}{g_NoWord_init:Addr}{od_INoWord an_INoWord:Option Addr}{sl_INoWord:Array (Option Value)}{oc_INoWord kV_INoWord dc_INoWord pm_INoWord cd_INoWord ct_INoWord:Value}{c_NoRoom:Addr}{cd_NoRoom:ClassData}{nm_NoRoom qn_NoRoom:Str}{N_NoRoom:Addr}{bs_NoRoom bm_NoRoom:List Value}{hdct_NoRoom:Bool}{sn_NoRoom:List Str}{sub_NoRoom:List Value}{ab_NoRoom:Bool}{col_NoRoom:Option Bool}{dd_NoRoom:Option Addr}{k0_NoRoom k1_NoRoom k2_NoRoom k3_NoRoom k5_NoRoom:Option Value}{g_NoRoom_init:Addr}{od_INoRoom an_INoRoom:Option Addr}{sl_INoRoom:Array (Option Value)}{oc_INoRoom kV_INoRoom dc_INoRoom pm_INoRoom cd_INoRoom ct_INoRoom:Value}{c_NoKinds:Addr}{cd_NoKinds:ClassData}{nm_NoKinds qn_NoKinds:Str}{N_NoKinds:Addr}{bs_NoKinds bm_NoKinds:List Value}{hdct_NoKinds:Bool}{sn_NoKinds:List Str}{sub_NoKinds:List Value}{ab_NoKinds:Bool}{col_NoKinds:Option Bool}{dd_NoKinds:Option Addr}{k0_NoKinds k1_NoKinds k2_NoKinds k3_NoKinds k5_NoKinds:Option Value}{g_Machine_init:Addr}{od_MMachine_init an_MMachine_init:Option Addr}{sl_MMachine_init:Array (Option Value)}{oc_MMachine_init kV_MMachine_init dc_MMachine_init pm_MMachine_init cd_MMachine_init ct_MMachine_init:Value}{g_Machine_rooms:Addr}{od_MMachine_rooms an_MMachine_rooms:Option Addr}{sl_MMachine_rooms:Array (Option Value)}{oc_MMachine_rooms kV_MMachine_rooms dc_MMachine_rooms pm_MMachine_rooms cd_MMachine_rooms ct_MMachine_rooms:Value}{g_Machine_need_room:Addr}{od_MMachine_need_room an_MMachine_need_room:Option Addr}{sl_MMachine_need_room:Array (Option Value)}{oc_MMachine_need_room kV_MMachine_need_room dc_MMachine_need_room pm_MMachine_need_room cd_MMachine_need_room ct_MMachine_need_room:Value}{g_Machine_led:Addr}{od_MMachine_led an_MMachine_led:Option Addr}{sl_MMachine_led:Array (Option Value)}{oc_MMachine_led kV_MMachine_led dc_MMachine_led pm_MMachine_led cd_MMachine_led ct_MMachine_led:Value}{g_Machine_way:Addr}{od_MMachine_way an_MMachine_way:Option Addr}{sl_MMachine_way:Array (Option Value)}{oc_MMachine_way kV_MMachine_way dc_MMachine_way pm_MMachine_way cd_MMachine_way ct_MMachine_way:Value}{g_Machine_room_of:Addr}{od_MMachine_room_of an_MMachine_room_of:Option Addr}{sl_MMachine_room_of:Array (Option Value)}{oc_MMachine_room_of kV_MMachine_room_of dc_MMachine_room_of pm_MMachine_room_of cd_MMachine_room_of ct_MMachine_room_of:Value}{g_Machine_word_to:Addr}{od_MMachine_word_to an_MMachine_word_to:Option Addr}{sl_MMachine_word_to:Array (Option Value)}{oc_MMachine_word_to kV_MMachine_word_to dc_MMachine_word_to pm_MMachine_word_to cd_MMachine_word_to ct_MMachine_word_to:Value}{g_Machine_parting:Addr}{od_MMachine_parting an_MMachine_parting:Option Addr}{sl_MMachine_parting:Array (Option Value)}{oc_MMachine_parting kV_MMachine_parting dc_MMachine_parting pm_MMachine_parting cd_MMachine_parting ct_MMachine_parting:Value}{g_Machine_ways:Addr}{od_MMachine_ways an_MMachine_ways:Option Addr}{sl_MMachine_ways:Array (Option Value)}{oc_MMachine_ways kV_MMachine_ways dc_MMachine_ways pm_MMachine_ways cd_MMachine_ways ct_MMachine_ways:Value}{g_Machine_counts_behind:Addr}{od_MMachine_counts_behind an_MMachine_counts_behind:Option Addr}{sl_MMachine_counts_behind:Array (Option Value)}{oc_MMachine_counts_behind kV_MMachine_counts_behind dc_MMachine_counts_behind pm_MMachine_counts_behind cd_MMachine_counts_behind ct_MMachine_counts_behind:Value}{c_Machine:Addr}{f_has_only:Addr}{od_has_only an_has_only:Option Addr}{sl_has_only:Array (Option Value)}{oc_has_only kV_has_only dc_has_only pm_has_only cd_has_only ct_has_only:Value}{f_is_kinds:Addr}{od_is_kinds an_is_kinds:Option Addr}{sl_is_kinds:Array (Option Value)}{oc_is_kinds kV_is_kinds dc_is_kinds pm_is_kinds cd_is_kinds ct_is_kinds:Value}{f_is_word:Addr}{od_is_word an_is_word:Option Addr}{sl_is_word:Array (Option Value)}{oc_is_word kV_is_word dc_is_word pm_is_word cd_is_word ct_is_word:Value}{f_is_letter:Addr}{od_is_letter an_is_letter:Option Addr}{sl_is_letter:Array (Option Value)}{oc_is_letter kV_is_letter dc_is_letter pm_is_letter cd_is_letter ct_is_letter:Value}{f_need_kinds:Addr}{od_need_kinds an_need_kinds:Option Addr}{sl_need_kinds:Array (Option Value)}{oc_need_kinds kV_need_kinds dc_need_kinds pm_need_kinds cd_need_kinds ct_need_kinds:Value}{f_need_word:Addr}{od_need_word an_need_word:Option Addr}{sl_need_word:Array (Option Value)}{oc_need_word kV_need_word dc_need_word pm_need_word cd_need_word ct_need_word:Value}{f_need_letter:Addr}{od_need_letter an_need_letter:Option Addr}{sl_need_letter:Array (Option Value)}{oc_need_letter kV_need_letter dc_need_letter pm_need_letter cd_need_letter ct_need_letter:Value}{f_is_within:Addr}{od_is_within an_is_within:Option Addr}{sl_is_within:Array (Option Value)}{oc_is_within kV_is_within dc_is_within pm_is_within cd_is_within ct_is_within:Value}{f_first_spots:Addr}{od_first_spots an_first_spots:Option Addr}{sl_first_spots:Array (Option Value)}{oc_first_spots kV_first_spots dc_first_spots pm_first_spots cd_first_spots ct_first_spots:Value}{f_spots_behind:Addr}{od_spots_behind an_spots_behind:Option Addr}{sl_spots_behind:Array (Option Value)}{oc_spots_behind kV_spots_behind dc_spots_behind pm_spots_behind cd_spots_behind ct_spots_behind:Value}{f_rooms_of:Addr}{od_rooms_of an_rooms_of:Option Addr}{sl_rooms_of:Array (Option Value)}{oc_rooms_of kV_rooms_of dc_rooms_of pm_rooms_of cd_rooms_of ct_rooms_of:Value}{f_lcell:Addr}{od_lcell an_lcell:Option Addr}{sl_lcell:Array (Option Value)}{oc_lcell kV_lcell dc_lcell pm_lcell cd_lcell ct_lcell:Value}{f_mixed:Addr}{od_mixed an_mixed:Option Addr}{sl_mixed:Array (Option Value)}{oc_mixed kV_mixed dc_mixed pm_mixed cd_mixed ct_mixed:Value}{f_lkinds:Addr}{od_lkinds an_lkinds:Option Addr}{sl_lkinds:Array (Option Value)}{oc_lkinds kV_lkinds dc_lkinds pm_lkinds cd_lkinds ct_lkinds:Value}{f_drawn:Addr}{od_drawn an_drawn:Option Addr}{sl_drawn:Array (Option Value)}{oc_drawn kV_drawn dc_drawn pm_drawn cd_drawn ct_drawn:Value}{f_ltext:Addr}{od_ltext an_ltext:Option Addr}{sl_ltext:Array (Option Value)}{oc_ltext kV_ltext dc_ltext pm_ltext cd_ltext ct_ltext:Value}{f_badk:Addr}{od_badk an_badk:Option Addr}{sl_badk:Array (Option Value)}{oc_badk kV_badk dc_badk pm_badk cd_badk ct_badk:Value}{f_badw:Addr}{od_badw an_badw:Option Addr}{sl_badw:Array (Option Value)}{oc_badw kV_badw dc_badw pm_badw cd_badw ct_badw:Value}{f_badr:Addr}{od_badr an_badr:Option Addr}{sl_badr:Array (Option Value)}{oc_badr kV_badr dc_badr pm_badr cd_badr ct_badr:Value}{f_badl:Addr}{od_badl an_badl:Option Addr}{sl_badl:Array (Option Value)}{oc_badl kV_badl dc_badl pm_badl cd_badl ct_badl:Value}{f_told:Addr}{od_told an_told:Option Addr}{sl_told:Array (Option Value)}{oc_told kV_told dc_told pm_told cd_told ct_told:Value}{f_made:Addr}{od_made an_made:Option Addr}{sl_made:Array (Option Value)}{oc_made kV_made dc_made pm_made cd_made ct_made:Value}{f_asked:Addr}{od_asked an_asked:Option Addr}{sl_asked:Array (Option Value)}{oc_asked kV_asked dc_asked pm_asked cd_asked ct_asked:Value}{f_alike:Addr}{od_alike an_alike:Option Addr}{sl_alike:Array (Option Value)}{oc_alike kV_alike dc_alike pm_alike cd_alike ct_alike:Value}{f_right:Addr}{od_right an_right:Option Addr}{sl_right:Array (Option Value)}{oc_right kV_right dc_right pm_right cd_right ct_right:Value}{f_law:Addr}{od_law an_law:Option Addr}{sl_law:Array (Option Value)}{oc_law kV_law dc_law pm_law cd_law ct_law:Value}{tk_SMALL_LETTERS:Tok}{tk_MOST_KINDS:Tok}{tk_MOST_IN_STRIP:Tok}{tk_MOST_ASKED:Tok}
  (oc_hn:PySem.W.specialIn K (.builtin "object.__class__") "__get__"=some (some (.builtin "getset_descriptor.__get__")))
  (oc_tk:PySem.W.takesIn K (.builtin "object.__class__")=some true)
  (a_LackError:PySem.W.nsIn K mainGlobals "LackError"=some (some (.ref c_LackError)))
  (q_LackError:PySem.W.clsIn K c_LackError=some cd_LackError)
  (r_LackError:cd_LackError.mro=[.ref c_LackError,.type "ValueError",.type "Exception",.type "BaseException",.type "object"])
  (ty_LackError:PySem.W.typeIn K (.ref c_LackError)=some (.type "type"))
  (ga_LackError:PySem.W.findIn K (.ref c_LackError) "__getattribute__"=some (some (.builtin "BaseException.__getattribute__")))
  (gr_LackError:PySem.W.findIn K (.ref c_LackError) "__getattr__"=some none)
  (sa_LackError:PySem.W.findIn K (.ref c_LackError) "__setattr__"=some (some (.builtin "object.__setattr__")))
  (hd_LackError:PySem.W.hasDictIn K c_LackError=true)
  (ob_LackError:K.lookup c_LackError=some (excClassObj nm_LackError qn_LackError c_LackError N_LackError bs_LackError bm_LackError hdct_LackError sn_LackError sub_LackError ab_LackError col_LackError dd_LackError k0_LackError k1_LackError k2_LackError k3_LackError k5_LackError "ValueError.__new__"))
  (kp_LackError:PySem.W.keepIn K (.ref c_LackError)=true)
  (ha_LackError:PySem.W.findIn K (.ref c_LackError) "__class__"=some (some (.builtin "object.__class__")))
  (i_LackError:PySem.W.findIn K (.ref c_LackError) "__init__"=some (some (.builtin "ValueError.__init__")))
  (rs_LackError:PySem.W.specialIn K (.ref c_LackError) "__getattribute__"=some (some (.builtin "type.__getattribute__")))
  (rr_LackError:PySem.W.readsIn K c_LackError (.type "type")=true)
  (rf_LackError:PySem.W.findCls K (.ref c_LackError) (.type "type") "__init__"=some (.val (.builtin "ValueError.__init__")))
  (a_NoWord:PySem.W.nsIn K mainGlobals "NoWord"=some (some (.ref c_NoWord)))
  (q_NoWord:PySem.W.clsIn K c_NoWord=some cd_NoWord)
  (r_NoWord:cd_NoWord.mro=[.ref c_NoWord,.ref c_LackError,.type "ValueError",.type "Exception",.type "BaseException",.type "object"])
  (ty_NoWord:PySem.W.typeIn K (.ref c_NoWord)=some (.type "type"))
  (ga_NoWord:PySem.W.findIn K (.ref c_NoWord) "__getattribute__"=some (some (.builtin "BaseException.__getattribute__")))
  (gr_NoWord:PySem.W.findIn K (.ref c_NoWord) "__getattr__"=some none)
  (sa_NoWord:PySem.W.findIn K (.ref c_NoWord) "__setattr__"=some (some (.builtin "object.__setattr__")))
  (hd_NoWord:PySem.W.hasDictIn K c_NoWord=true)
  (ob_NoWord:K.lookup c_NoWord=some (excClassObj nm_NoWord qn_NoWord c_NoWord N_NoWord bs_NoWord bm_NoWord hdct_NoWord sn_NoWord sub_NoWord ab_NoWord col_NoWord dd_NoWord k0_NoWord k1_NoWord k2_NoWord k3_NoWord k5_NoWord "ValueError.__new__"))
  (kp_NoWord:PySem.W.keepIn K (.ref c_NoWord)=true)
  (ha_NoWord:PySem.W.findIn K (.ref c_NoWord) "__class__"=some (some (.builtin "object.__class__")))
  (i_NoWord:PySem.W.findIn K (.ref c_NoWord) "__init__"=some (some (.ref g_NoWord_init)))
  (fn_NoWord:PySem.W.isFn K (.ref g_NoWord_init)=true)
  (l_INoWord:K.lookup g_NoWord_init=some ⟨oc_INoWord,od_INoWord,.func (PySem.W.fnOf "__init__" "NoWord.__init__" (defArgs s_NoWord_init) (defBody s_NoWord_init) (defScope s_NoWord_init) .none kV_INoWord dc_INoWord pm_INoWord an_INoWord cd_INoWord ct_INoWord),sl_INoWord⟩)
  (cc_INoWord:PySem.W.codeIn K cd_INoWord "NoWord.__init__"=true)
  (kk_INoWord:PySem.W.keepIn K (.ref g_NoWord_init)=true)
  (n_NoWord_word:PySem.W.findIn K (.ref c_NoWord) "word"=some none)
  (a_NoRoom:PySem.W.nsIn K mainGlobals "NoRoom"=some (some (.ref c_NoRoom)))
  (q_NoRoom:PySem.W.clsIn K c_NoRoom=some cd_NoRoom)
  (r_NoRoom:cd_NoRoom.mro=[.ref c_NoRoom,.ref c_LackError,.type "ValueError",.type "Exception",.type "BaseException",.type "object"])
  (ty_NoRoom:PySem.W.typeIn K (.ref c_NoRoom)=some (.type "type"))
  (ga_NoRoom:PySem.W.findIn K (.ref c_NoRoom) "__getattribute__"=some (some (.builtin "BaseException.__getattribute__")))
  (gr_NoRoom:PySem.W.findIn K (.ref c_NoRoom) "__getattr__"=some none)
  (sa_NoRoom:PySem.W.findIn K (.ref c_NoRoom) "__setattr__"=some (some (.builtin "object.__setattr__")))
  (hd_NoRoom:PySem.W.hasDictIn K c_NoRoom=true)
  (ob_NoRoom:K.lookup c_NoRoom=some (excClassObj nm_NoRoom qn_NoRoom c_NoRoom N_NoRoom bs_NoRoom bm_NoRoom hdct_NoRoom sn_NoRoom sub_NoRoom ab_NoRoom col_NoRoom dd_NoRoom k0_NoRoom k1_NoRoom k2_NoRoom k3_NoRoom k5_NoRoom "ValueError.__new__"))
  (kp_NoRoom:PySem.W.keepIn K (.ref c_NoRoom)=true)
  (ha_NoRoom:PySem.W.findIn K (.ref c_NoRoom) "__class__"=some (some (.builtin "object.__class__")))
  (i_NoRoom:PySem.W.findIn K (.ref c_NoRoom) "__init__"=some (some (.ref g_NoRoom_init)))
  (fn_NoRoom:PySem.W.isFn K (.ref g_NoRoom_init)=true)
  (l_INoRoom:K.lookup g_NoRoom_init=some ⟨oc_INoRoom,od_INoRoom,.func (PySem.W.fnOf "__init__" "NoRoom.__init__" (defArgs s_NoRoom_init) (defBody s_NoRoom_init) (defScope s_NoRoom_init) .none kV_INoRoom dc_INoRoom pm_INoRoom an_INoRoom cd_INoRoom ct_INoRoom),sl_INoRoom⟩)
  (cc_INoRoom:PySem.W.codeIn K cd_INoRoom "NoRoom.__init__"=true)
  (kk_INoRoom:PySem.W.keepIn K (.ref g_NoRoom_init)=true)
  (n_NoRoom_room:PySem.W.findIn K (.ref c_NoRoom) "room"=some none)
  (a_NoKinds:PySem.W.nsIn K mainGlobals "NoKinds"=some (some (.ref c_NoKinds)))
  (q_NoKinds:PySem.W.clsIn K c_NoKinds=some cd_NoKinds)
  (r_NoKinds:cd_NoKinds.mro=[.ref c_NoKinds,.ref c_LackError,.type "ValueError",.type "Exception",.type "BaseException",.type "object"])
  (ty_NoKinds:PySem.W.typeIn K (.ref c_NoKinds)=some (.type "type"))
  (ga_NoKinds:PySem.W.findIn K (.ref c_NoKinds) "__getattribute__"=some (some (.builtin "BaseException.__getattribute__")))
  (gr_NoKinds:PySem.W.findIn K (.ref c_NoKinds) "__getattr__"=some none)
  (sa_NoKinds:PySem.W.findIn K (.ref c_NoKinds) "__setattr__"=some (some (.builtin "object.__setattr__")))
  (hd_NoKinds:PySem.W.hasDictIn K c_NoKinds=true)
  (ob_NoKinds:K.lookup c_NoKinds=some (excClassObj nm_NoKinds qn_NoKinds c_NoKinds N_NoKinds bs_NoKinds bm_NoKinds hdct_NoKinds sn_NoKinds sub_NoKinds ab_NoKinds col_NoKinds dd_NoKinds k0_NoKinds k1_NoKinds k2_NoKinds k3_NoKinds k5_NoKinds "ValueError.__new__"))
  (kp_NoKinds:PySem.W.keepIn K (.ref c_NoKinds)=true)
  (ha_NoKinds:PySem.W.findIn K (.ref c_NoKinds) "__class__"=some (some (.builtin "object.__class__")))
  (i_NoKinds:PySem.W.findIn K (.ref c_NoKinds) "__init__"=some (some (.builtin "ValueError.__init__")))
  (ow_hn:PySem.W.specialIn K (.builtin "object.__class__") "__get__"=some (some (.builtin "getset_descriptor.__get__")))
  (ow_tk:PySem.W.takesIn K (.builtin "object.__class__")=some true)
  (a_Machine:PySem.W.nsIn K mainGlobals "Machine"=some (some (.ref c_Machine)))
  (pg_Machine:PySem.W.plainGet K c_Machine Str.empty=true)
  (hd_Machine:PySem.W.hasDictIn K c_Machine=true)
  (po_Machine:PySem.W.plainOver K c_Machine=true)
  (sa_Machine:PySem.W.findIn K (.ref c_Machine) "__setattr__"=some (some (.builtin "object.__setattr__")))
  (rs_Machine:PySem.W.specialIn K (.ref c_Machine) "__getattribute__"=some (some (.builtin "type.__getattribute__")))
  (rr_Machine:PySem.W.readsIn K c_Machine (.type "type")=true)
  (rf_Machine:PySem.W.findCls K (.ref c_Machine) (.type "type") "__init__"=some (.val (.ref g_Machine_init)))
  (mk_Machine:PySem.W.makesIn K c_Machine=true)
  (in_Machine:PySem.W.findIn K (.ref c_Machine) "__init__"=some (some (.ref g_Machine_init)))
  (kc_Machine:PySem.W.keepIn K (.ref c_Machine)=true)
  (ha_Machine:PySem.W.findIn K (.ref c_Machine) "__class__"=some (some (.builtin "object.__class__")))
  (mo_Machine:PySem.W.mroIn K c_Machine (.type "object")=some true)
  (me_Machine_rooms:PySem.W.findIn K (.ref c_Machine) "rooms"=some (some (.ref g_Machine_rooms)))
  (me_Machine_need_room:PySem.W.findIn K (.ref c_Machine) "need_room"=some (some (.ref g_Machine_need_room)))
  (me_Machine_led:PySem.W.findIn K (.ref c_Machine) "led"=some (some (.ref g_Machine_led)))
  (me_Machine_way:PySem.W.findIn K (.ref c_Machine) "way"=some (some (.ref g_Machine_way)))
  (me_Machine_room_of:PySem.W.findIn K (.ref c_Machine) "room_of"=some (some (.ref g_Machine_room_of)))
  (me_Machine_word_to:PySem.W.findIn K (.ref c_Machine) "word_to"=some (some (.ref g_Machine_word_to)))
  (me_Machine_parting:PySem.W.findIn K (.ref c_Machine) "parting"=some (some (.ref g_Machine_parting)))
  (me_Machine_ways:PySem.W.findIn K (.ref c_Machine) "ways"=some (some (.ref g_Machine_ways)))
  (me_Machine_counts_behind:PySem.W.findIn K (.ref c_Machine) "counts_behind"=some (some (.ref g_Machine_counts_behind)))
  (n_Machine_own_kinds:PySem.W.findIn K (.ref c_Machine) "own_kinds"=some none)
  (n_Machine_own_rooms:PySem.W.findIn K (.ref c_Machine) "own_rooms"=some none)
  (l_MMachine_init:K.lookup g_Machine_init=some ⟨oc_MMachine_init,od_MMachine_init,.func (PySem.W.fnOf "__init__" "Machine.__init__" (defArgs s_Machine_init) (defBody s_Machine_init) (defScope s_Machine_init) .none kV_MMachine_init dc_MMachine_init pm_MMachine_init an_MMachine_init cd_MMachine_init ct_MMachine_init),sl_MMachine_init⟩)
  (cc_MMachine_init:PySem.W.codeIn K cd_MMachine_init "Machine.__init__"=true)
  (kk_MMachine_init:PySem.W.keepIn K (.ref g_Machine_init)=true)
  (fn_MMachine_init:PySem.W.isFn K (.ref g_Machine_init)=true)
  (l_MMachine_rooms:K.lookup g_Machine_rooms=some ⟨oc_MMachine_rooms,od_MMachine_rooms,.func (PySem.W.fnOf "rooms" "Machine.rooms" (defArgs s_Machine_rooms) (defBody s_Machine_rooms) (defScope s_Machine_rooms) .none kV_MMachine_rooms dc_MMachine_rooms pm_MMachine_rooms an_MMachine_rooms cd_MMachine_rooms ct_MMachine_rooms),sl_MMachine_rooms⟩)
  (cc_MMachine_rooms:PySem.W.codeIn K cd_MMachine_rooms "Machine.rooms"=true)
  (kk_MMachine_rooms:PySem.W.keepIn K (.ref g_Machine_rooms)=true)
  (fn_MMachine_rooms:PySem.W.isFn K (.ref g_Machine_rooms)=true)
  (l_MMachine_need_room:K.lookup g_Machine_need_room=some ⟨oc_MMachine_need_room,od_MMachine_need_room,.func (PySem.W.fnOf "need_room" "Machine.need_room" (defArgs s_Machine_need_room) (defBody s_Machine_need_room) (defScope s_Machine_need_room) .none kV_MMachine_need_room dc_MMachine_need_room pm_MMachine_need_room an_MMachine_need_room cd_MMachine_need_room ct_MMachine_need_room),sl_MMachine_need_room⟩)
  (cc_MMachine_need_room:PySem.W.codeIn K cd_MMachine_need_room "Machine.need_room"=true)
  (kk_MMachine_need_room:PySem.W.keepIn K (.ref g_Machine_need_room)=true)
  (fn_MMachine_need_room:PySem.W.isFn K (.ref g_Machine_need_room)=true)
  (l_MMachine_led:K.lookup g_Machine_led=some ⟨oc_MMachine_led,od_MMachine_led,.func (PySem.W.fnOf "led" "Machine.led" (defArgs s_Machine_led) (defBody s_Machine_led) (defScope s_Machine_led) .none kV_MMachine_led dc_MMachine_led pm_MMachine_led an_MMachine_led cd_MMachine_led ct_MMachine_led),sl_MMachine_led⟩)
  (cc_MMachine_led:PySem.W.codeIn K cd_MMachine_led "Machine.led"=true)
  (kk_MMachine_led:PySem.W.keepIn K (.ref g_Machine_led)=true)
  (fn_MMachine_led:PySem.W.isFn K (.ref g_Machine_led)=true)
  (l_MMachine_way:K.lookup g_Machine_way=some ⟨oc_MMachine_way,od_MMachine_way,.func (PySem.W.fnOf "way" "Machine.way" (defArgs s_Machine_way) (defBody s_Machine_way) (defScope s_Machine_way) .none kV_MMachine_way dc_MMachine_way pm_MMachine_way an_MMachine_way cd_MMachine_way ct_MMachine_way),sl_MMachine_way⟩)
  (cc_MMachine_way:PySem.W.codeIn K cd_MMachine_way "Machine.way"=true)
  (kk_MMachine_way:PySem.W.keepIn K (.ref g_Machine_way)=true)
  (fn_MMachine_way:PySem.W.isFn K (.ref g_Machine_way)=true)
  (l_MMachine_room_of:K.lookup g_Machine_room_of=some ⟨oc_MMachine_room_of,od_MMachine_room_of,.func (PySem.W.fnOf "room_of" "Machine.room_of" (defArgs s_Machine_room_of) (defBody s_Machine_room_of) (defScope s_Machine_room_of) .none kV_MMachine_room_of dc_MMachine_room_of pm_MMachine_room_of an_MMachine_room_of cd_MMachine_room_of ct_MMachine_room_of),sl_MMachine_room_of⟩)
  (cc_MMachine_room_of:PySem.W.codeIn K cd_MMachine_room_of "Machine.room_of"=true)
  (kk_MMachine_room_of:PySem.W.keepIn K (.ref g_Machine_room_of)=true)
  (fn_MMachine_room_of:PySem.W.isFn K (.ref g_Machine_room_of)=true)
  (l_MMachine_word_to:K.lookup g_Machine_word_to=some ⟨oc_MMachine_word_to,od_MMachine_word_to,.func (PySem.W.fnOf "word_to" "Machine.word_to" (defArgs s_Machine_word_to) (defBody s_Machine_word_to) (defScope s_Machine_word_to) .none kV_MMachine_word_to dc_MMachine_word_to pm_MMachine_word_to an_MMachine_word_to cd_MMachine_word_to ct_MMachine_word_to),sl_MMachine_word_to⟩)
  (cc_MMachine_word_to:PySem.W.codeIn K cd_MMachine_word_to "Machine.word_to"=true)
  (kk_MMachine_word_to:PySem.W.keepIn K (.ref g_Machine_word_to)=true)
  (fn_MMachine_word_to:PySem.W.isFn K (.ref g_Machine_word_to)=true)
  (l_MMachine_parting:K.lookup g_Machine_parting=some ⟨oc_MMachine_parting,od_MMachine_parting,.func (PySem.W.fnOf "parting" "Machine.parting" (defArgs s_Machine_parting) (defBody s_Machine_parting) (defScope s_Machine_parting) .none kV_MMachine_parting dc_MMachine_parting pm_MMachine_parting an_MMachine_parting cd_MMachine_parting ct_MMachine_parting),sl_MMachine_parting⟩)
  (cc_MMachine_parting:PySem.W.codeIn K cd_MMachine_parting "Machine.parting"=true)
  (kk_MMachine_parting:PySem.W.keepIn K (.ref g_Machine_parting)=true)
  (fn_MMachine_parting:PySem.W.isFn K (.ref g_Machine_parting)=true)
  (l_MMachine_ways:K.lookup g_Machine_ways=some ⟨oc_MMachine_ways,od_MMachine_ways,.func (PySem.W.fnOf "ways" "Machine.ways" (defArgs s_Machine_ways) (defBody s_Machine_ways) (defScope s_Machine_ways) .none kV_MMachine_ways dc_MMachine_ways pm_MMachine_ways an_MMachine_ways cd_MMachine_ways ct_MMachine_ways),sl_MMachine_ways⟩)
  (cc_MMachine_ways:PySem.W.codeIn K cd_MMachine_ways "Machine.ways"=true)
  (kk_MMachine_ways:PySem.W.keepIn K (.ref g_Machine_ways)=true)
  (fn_MMachine_ways:PySem.W.isFn K (.ref g_Machine_ways)=true)
  (l_MMachine_counts_behind:K.lookup g_Machine_counts_behind=some ⟨oc_MMachine_counts_behind,od_MMachine_counts_behind,.func (PySem.W.fnOf "counts_behind" "Machine.counts_behind" (defArgs s_Machine_counts_behind) (defBody s_Machine_counts_behind) (defScope s_Machine_counts_behind) .none kV_MMachine_counts_behind dc_MMachine_counts_behind pm_MMachine_counts_behind an_MMachine_counts_behind cd_MMachine_counts_behind ct_MMachine_counts_behind),sl_MMachine_counts_behind⟩)
  (cc_MMachine_counts_behind:PySem.W.codeIn K cd_MMachine_counts_behind "Machine.counts_behind"=true)
  (kk_MMachine_counts_behind:PySem.W.keepIn K (.ref g_Machine_counts_behind)=true)
  (fn_MMachine_counts_behind:PySem.W.isFn K (.ref g_Machine_counts_behind)=true)
  (nd:[c_LackError,c_NoWord,c_NoRoom,c_NoKinds].Nodup)
  (a_has_only:PySem.W.nsIn K mainGlobals "has_only"=some (some (.ref f_has_only)))
  (l_has_only:K.lookup f_has_only=some ⟨oc_has_only,od_has_only,.func (PySem.W.fnOf "has_only" "has_only" (defArgs s_has_only) (defBody s_has_only) (defScope s_has_only) .none kV_has_only dc_has_only pm_has_only an_has_only cd_has_only ct_has_only),sl_has_only⟩)
  (cc_has_only:PySem.W.codeIn K cd_has_only "has_only"=true)
  (kk_has_only:PySem.W.keepIn K (.ref f_has_only)=true)
  (a_is_kinds:PySem.W.nsIn K mainGlobals "is_kinds"=some (some (.ref f_is_kinds)))
  (l_is_kinds:K.lookup f_is_kinds=some ⟨oc_is_kinds,od_is_kinds,.func (PySem.W.fnOf "is_kinds" "is_kinds" (defArgs s_is_kinds) (defBody s_is_kinds) (defScope s_is_kinds) .none kV_is_kinds dc_is_kinds pm_is_kinds an_is_kinds cd_is_kinds ct_is_kinds),sl_is_kinds⟩)
  (cc_is_kinds:PySem.W.codeIn K cd_is_kinds "is_kinds"=true)
  (kk_is_kinds:PySem.W.keepIn K (.ref f_is_kinds)=true)
  (a_is_word:PySem.W.nsIn K mainGlobals "is_word"=some (some (.ref f_is_word)))
  (l_is_word:K.lookup f_is_word=some ⟨oc_is_word,od_is_word,.func (PySem.W.fnOf "is_word" "is_word" (defArgs s_is_word) (defBody s_is_word) (defScope s_is_word) .none kV_is_word dc_is_word pm_is_word an_is_word cd_is_word ct_is_word),sl_is_word⟩)
  (cc_is_word:PySem.W.codeIn K cd_is_word "is_word"=true)
  (kk_is_word:PySem.W.keepIn K (.ref f_is_word)=true)
  (a_is_letter:PySem.W.nsIn K mainGlobals "is_letter"=some (some (.ref f_is_letter)))
  (l_is_letter:K.lookup f_is_letter=some ⟨oc_is_letter,od_is_letter,.func (PySem.W.fnOf "is_letter" "is_letter" (defArgs s_is_letter) (defBody s_is_letter) (defScope s_is_letter) .none kV_is_letter dc_is_letter pm_is_letter an_is_letter cd_is_letter ct_is_letter),sl_is_letter⟩)
  (cc_is_letter:PySem.W.codeIn K cd_is_letter "is_letter"=true)
  (kk_is_letter:PySem.W.keepIn K (.ref f_is_letter)=true)
  (a_need_kinds:PySem.W.nsIn K mainGlobals "need_kinds"=some (some (.ref f_need_kinds)))
  (l_need_kinds:K.lookup f_need_kinds=some ⟨oc_need_kinds,od_need_kinds,.func (PySem.W.fnOf "need_kinds" "need_kinds" (defArgs s_need_kinds) (defBody s_need_kinds) (defScope s_need_kinds) .none kV_need_kinds dc_need_kinds pm_need_kinds an_need_kinds cd_need_kinds ct_need_kinds),sl_need_kinds⟩)
  (cc_need_kinds:PySem.W.codeIn K cd_need_kinds "need_kinds"=true)
  (kk_need_kinds:PySem.W.keepIn K (.ref f_need_kinds)=true)
  (a_need_word:PySem.W.nsIn K mainGlobals "need_word"=some (some (.ref f_need_word)))
  (l_need_word:K.lookup f_need_word=some ⟨oc_need_word,od_need_word,.func (PySem.W.fnOf "need_word" "need_word" (defArgs s_need_word) (defBody s_need_word) (defScope s_need_word) .none kV_need_word dc_need_word pm_need_word an_need_word cd_need_word ct_need_word),sl_need_word⟩)
  (cc_need_word:PySem.W.codeIn K cd_need_word "need_word"=true)
  (kk_need_word:PySem.W.keepIn K (.ref f_need_word)=true)
  (a_need_letter:PySem.W.nsIn K mainGlobals "need_letter"=some (some (.ref f_need_letter)))
  (l_need_letter:K.lookup f_need_letter=some ⟨oc_need_letter,od_need_letter,.func (PySem.W.fnOf "need_letter" "need_letter" (defArgs s_need_letter) (defBody s_need_letter) (defScope s_need_letter) .none kV_need_letter dc_need_letter pm_need_letter an_need_letter cd_need_letter ct_need_letter),sl_need_letter⟩)
  (cc_need_letter:PySem.W.codeIn K cd_need_letter "need_letter"=true)
  (kk_need_letter:PySem.W.keepIn K (.ref f_need_letter)=true)
  (a_is_within:PySem.W.nsIn K mainGlobals "is_within"=some (some (.ref f_is_within)))
  (l_is_within:K.lookup f_is_within=some ⟨oc_is_within,od_is_within,.func (PySem.W.fnOf "is_within" "is_within" (defArgs s_is_within) (defBody s_is_within) (defScope s_is_within) .none kV_is_within dc_is_within pm_is_within an_is_within cd_is_within ct_is_within),sl_is_within⟩)
  (cc_is_within:PySem.W.codeIn K cd_is_within "is_within"=true)
  (kk_is_within:PySem.W.keepIn K (.ref f_is_within)=true)
  (a_first_spots:PySem.W.nsIn K mainGlobals "first_spots"=some (some (.ref f_first_spots)))
  (l_first_spots:K.lookup f_first_spots=some ⟨oc_first_spots,od_first_spots,.func (PySem.W.fnOf "first_spots" "first_spots" (defArgs s_first_spots) (defBody s_first_spots) (defScope s_first_spots) .none kV_first_spots dc_first_spots pm_first_spots an_first_spots cd_first_spots ct_first_spots),sl_first_spots⟩)
  (cc_first_spots:PySem.W.codeIn K cd_first_spots "first_spots"=true)
  (kk_first_spots:PySem.W.keepIn K (.ref f_first_spots)=true)
  (a_spots_behind:PySem.W.nsIn K mainGlobals "spots_behind"=some (some (.ref f_spots_behind)))
  (l_spots_behind:K.lookup f_spots_behind=some ⟨oc_spots_behind,od_spots_behind,.func (PySem.W.fnOf "spots_behind" "spots_behind" (defArgs s_spots_behind) (defBody s_spots_behind) (defScope s_spots_behind) .none kV_spots_behind dc_spots_behind pm_spots_behind an_spots_behind cd_spots_behind ct_spots_behind),sl_spots_behind⟩)
  (cc_spots_behind:PySem.W.codeIn K cd_spots_behind "spots_behind"=true)
  (kk_spots_behind:PySem.W.keepIn K (.ref f_spots_behind)=true)
  (a_rooms_of:PySem.W.nsIn K mainGlobals "rooms_of"=some (some (.ref f_rooms_of)))
  (l_rooms_of:K.lookup f_rooms_of=some ⟨oc_rooms_of,od_rooms_of,.func (PySem.W.fnOf "rooms_of" "rooms_of" (defArgs s_rooms_of) (defBody s_rooms_of) (defScope s_rooms_of) .none kV_rooms_of dc_rooms_of pm_rooms_of an_rooms_of cd_rooms_of ct_rooms_of),sl_rooms_of⟩)
  (cc_rooms_of:PySem.W.codeIn K cd_rooms_of "rooms_of"=true)
  (kk_rooms_of:PySem.W.keepIn K (.ref f_rooms_of)=true)
  (a_lcell:PySem.W.nsIn K mainGlobals "_law_cell_at"=some (some (.ref f_lcell)))
  (l_lcell:K.lookup f_lcell=some ⟨oc_lcell,od_lcell,.func (PySem.W.fnOf "_law_cell_at" "_law_cell_at" (defArgs s_lcell) (defBody s_lcell) (defScope s_lcell) .none kV_lcell dc_lcell pm_lcell an_lcell cd_lcell ct_lcell),sl_lcell⟩)
  (cc_lcell:PySem.W.codeIn K cd_lcell "_law_cell_at"=true)
  (kk_lcell:PySem.W.keepIn K (.ref f_lcell)=true)
  (a_mixed:PySem.W.nsIn K mainGlobals "_law_mixed"=some (some (.ref f_mixed)))
  (l_mixed:K.lookup f_mixed=some ⟨oc_mixed,od_mixed,.func (PySem.W.fnOf "_law_mixed" "_law_mixed" (defArgs s_mixed) (defBody s_mixed) (defScope s_mixed) .none kV_mixed dc_mixed pm_mixed an_mixed cd_mixed ct_mixed),sl_mixed⟩)
  (cc_mixed:PySem.W.codeIn K cd_mixed "_law_mixed"=true)
  (kk_mixed:PySem.W.keepIn K (.ref f_mixed)=true)
  (a_lkinds:PySem.W.nsIn K mainGlobals "_law_kinds"=some (some (.ref f_lkinds)))
  (l_lkinds:K.lookup f_lkinds=some ⟨oc_lkinds,od_lkinds,.func (PySem.W.fnOf "_law_kinds" "_law_kinds" (defArgs s_lkinds) (defBody s_lkinds) (defScope s_lkinds) .none kV_lkinds dc_lkinds pm_lkinds an_lkinds cd_lkinds ct_lkinds),sl_lkinds⟩)
  (cc_lkinds:PySem.W.codeIn K cd_lkinds "_law_kinds"=true)
  (kk_lkinds:PySem.W.keepIn K (.ref f_lkinds)=true)
  (a_drawn:PySem.W.nsIn K mainGlobals "_law_drawn"=some (some (.ref f_drawn)))
  (l_drawn:K.lookup f_drawn=some ⟨oc_drawn,od_drawn,.func (PySem.W.fnOf "_law_drawn" "_law_drawn" (defArgs s_drawn) (defBody s_drawn) (defScope s_drawn) .none kV_drawn dc_drawn pm_drawn an_drawn cd_drawn ct_drawn),sl_drawn⟩)
  (cc_drawn:PySem.W.codeIn K cd_drawn "_law_drawn"=true)
  (kk_drawn:PySem.W.keepIn K (.ref f_drawn)=true)
  (a_ltext:PySem.W.nsIn K mainGlobals "_law_text"=some (some (.ref f_ltext)))
  (l_ltext:K.lookup f_ltext=some ⟨oc_ltext,od_ltext,.func (PySem.W.fnOf "_law_text" "_law_text" (defArgs s_ltext) (defBody s_ltext) (defScope s_ltext) .none kV_ltext dc_ltext pm_ltext an_ltext cd_ltext ct_ltext),sl_ltext⟩)
  (cc_ltext:PySem.W.codeIn K cd_ltext "_law_text"=true)
  (kk_ltext:PySem.W.keepIn K (.ref f_ltext)=true)
  (a_badk:PySem.W.nsIn K mainGlobals "_law_bad_kinds"=some (some (.ref f_badk)))
  (l_badk:K.lookup f_badk=some ⟨oc_badk,od_badk,.func (PySem.W.fnOf "_law_bad_kinds" "_law_bad_kinds" (defArgs s_badk) (defBody s_badk) (defScope s_badk) .none kV_badk dc_badk pm_badk an_badk cd_badk ct_badk),sl_badk⟩)
  (cc_badk:PySem.W.codeIn K cd_badk "_law_bad_kinds"=true)
  (kk_badk:PySem.W.keepIn K (.ref f_badk)=true)
  (a_badw:PySem.W.nsIn K mainGlobals "_law_bad_word"=some (some (.ref f_badw)))
  (l_badw:K.lookup f_badw=some ⟨oc_badw,od_badw,.func (PySem.W.fnOf "_law_bad_word" "_law_bad_word" (defArgs s_badw) (defBody s_badw) (defScope s_badw) .none kV_badw dc_badw pm_badw an_badw cd_badw ct_badw),sl_badw⟩)
  (cc_badw:PySem.W.codeIn K cd_badw "_law_bad_word"=true)
  (kk_badw:PySem.W.keepIn K (.ref f_badw)=true)
  (a_badr:PySem.W.nsIn K mainGlobals "_law_bad_room"=some (some (.ref f_badr)))
  (l_badr:K.lookup f_badr=some ⟨oc_badr,od_badr,.func (PySem.W.fnOf "_law_bad_room" "_law_bad_room" (defArgs s_badr) (defBody s_badr) (defScope s_badr) .none kV_badr dc_badr pm_badr an_badr cd_badr ct_badr),sl_badr⟩)
  (cc_badr:PySem.W.codeIn K cd_badr "_law_bad_room"=true)
  (kk_badr:PySem.W.keepIn K (.ref f_badr)=true)
  (a_badl:PySem.W.nsIn K mainGlobals "_law_bad_letter"=some (some (.ref f_badl)))
  (l_badl:K.lookup f_badl=some ⟨oc_badl,od_badl,.func (PySem.W.fnOf "_law_bad_letter" "_law_bad_letter" (defArgs s_badl) (defBody s_badl) (defScope s_badl) .none kV_badl dc_badl pm_badl an_badl cd_badl ct_badl),sl_badl⟩)
  (cc_badl:PySem.W.codeIn K cd_badl "_law_bad_letter"=true)
  (kk_badl:PySem.W.keepIn K (.ref f_badl)=true)
  (a_told:PySem.W.nsIn K mainGlobals "_law_told"=some (some (.ref f_told)))
  (l_told:K.lookup f_told=some ⟨oc_told,od_told,.func (PySem.W.fnOf "_law_told" "_law_told" (defArgs s_told) (defBody s_told) (defScope s_told) .none kV_told dc_told pm_told an_told cd_told ct_told),sl_told⟩)
  (cc_told:PySem.W.codeIn K cd_told "_law_told"=true)
  (kk_told:PySem.W.keepIn K (.ref f_told)=true)
  (a_made:PySem.W.nsIn K mainGlobals "_law_made"=some (some (.ref f_made)))
  (l_made:K.lookup f_made=some ⟨oc_made,od_made,.func (PySem.W.fnOf "_law_made" "_law_made" (defArgs s_made) (defBody s_made) (defScope s_made) .none kV_made dc_made pm_made an_made cd_made ct_made),sl_made⟩)
  (cc_made:PySem.W.codeIn K cd_made "_law_made"=true)
  (kk_made:PySem.W.keepIn K (.ref f_made)=true)
  (a_asked:PySem.W.nsIn K mainGlobals "_law_asked"=some (some (.ref f_asked)))
  (l_asked:K.lookup f_asked=some ⟨oc_asked,od_asked,.func (PySem.W.fnOf "_law_asked" "_law_asked" (defArgs s_asked) (defBody s_asked) (defScope s_asked) .none kV_asked dc_asked pm_asked an_asked cd_asked ct_asked),sl_asked⟩)
  (cc_asked:PySem.W.codeIn K cd_asked "_law_asked"=true)
  (kk_asked:PySem.W.keepIn K (.ref f_asked)=true)
  (a_alike:PySem.W.nsIn K mainGlobals "_law_alike"=some (some (.ref f_alike)))
  (l_alike:K.lookup f_alike=some ⟨oc_alike,od_alike,.func (PySem.W.fnOf "_law_alike" "_law_alike" (defArgs s_alike) (defBody s_alike) (defScope s_alike) .none kV_alike dc_alike pm_alike an_alike cd_alike ct_alike),sl_alike⟩)
  (cc_alike:PySem.W.codeIn K cd_alike "_law_alike"=true)
  (kk_alike:PySem.W.keepIn K (.ref f_alike)=true)
  (a_right:PySem.W.nsIn K mainGlobals "_law_right"=some (some (.ref f_right)))
  (l_right:K.lookup f_right=some ⟨oc_right,od_right,.func (PySem.W.fnOf "_law_right" "_law_right" (defArgs s_right) (defBody s_right) (defScope s_right) .none kV_right dc_right pm_right an_right cd_right ct_right),sl_right⟩)
  (cc_right:PySem.W.codeIn K cd_right "_law_right"=true)
  (kk_right:PySem.W.keepIn K (.ref f_right)=true)
  (a_law:PySem.W.nsIn K mainGlobals "law"=some (some (.ref f_law)))
  (l_law:K.lookup f_law=some ⟨oc_law,od_law,.func (PySem.W.fnOf "law" "law" (defArgs s_law) (defBody s_law) (defScope s_law) .none kV_law dc_law pm_law an_law cd_law ct_law),sl_law⟩)
  (cc_law:PySem.W.codeIn K cd_law "law"=true)
  (kk_law:PySem.W.keepIn K (.ref f_law)=true)
  (z_len:PySem.W.nsIn K mainGlobals "len"=some none)
  (z_range:PySem.W.nsIn K mainGlobals "range"=some none)
  (z_isinstance:PySem.W.nsIn K mainGlobals "isinstance"=some none)
  (z_all:PySem.W.nsIn K mainGlobals "all"=some none)
  (z_max:PySem.W.nsIn K mainGlobals "max"=some none)
  (z_min:PySem.W.nsIn K mainGlobals "min"=some none)
  (z_list:PySem.W.nsIn K mainGlobals "list"=some none)
  (z_tuple:PySem.W.nsIn K mainGlobals "tuple"=some none)
  (z_set:PySem.W.nsIn K mainGlobals "set"=some none)
  (z_sorted:PySem.W.nsIn K mainGlobals "sorted"=some none)
  (z_str:PySem.W.nsIn K mainGlobals "str"=some none)
  (z_int:PySem.W.nsIn K mainGlobals "int"=some none)
  (z_bool:PySem.W.nsIn K mainGlobals "bool"=some none)
  (z_sum:PySem.W.nsIn K mainGlobals "sum"=some none)
  (z_ValueError:PySem.W.nsIn K mainGlobals "ValueError"=some none)
  (c_SMALL_LETTERS:PySem.W.nsIn K mainGlobals "SMALL_LETTERS"=some (some (.str (Str.ofString "abcdefghijklmnopqrstuvwxyz") tk_SMALL_LETTERS)))
  (c_MOST_KINDS:PySem.W.nsIn K mainGlobals "MOST_KINDS"=some (some (.int 4 tk_MOST_KINDS)))
  (c_MOST_IN_STRIP:PySem.W.nsIn K mainGlobals "MOST_IN_STRIP"=some (some (.int 40 tk_MOST_IN_STRIP)))
  (c_MOST_ASKED:PySem.W.nsIn K mainGlobals "MOST_ASKED"=some (some (.int 60 tk_MOST_ASKED))):∃a,Txt K mg a:=by
 have xc_LackError:Xc K c_LackError:=⟨ga_LackError,gr_LackError,sa_LackError,hd_LackError,by rw[q_LackError];show xmro cd_LackError.mro=true;rw[r_LackError];rfl⟩
 have xc_NoWord:Xc K c_NoWord:=⟨ga_NoWord,gr_NoWord,sa_NoWord,hd_NoWord,by rw[q_NoWord];show xmro cd_NoWord.mro=true;rw[r_NoWord];rfl⟩
 have F_INoWord:=fun_mk (st:=s_NoWord_init) l_INoWord cc_INoWord kk_INoWord
 have xc_NoRoom:Xc K c_NoRoom:=⟨ga_NoRoom,gr_NoRoom,sa_NoRoom,hd_NoRoom,by rw[q_NoRoom];show xmro cd_NoRoom.mro=true;rw[r_NoRoom];rfl⟩
 have F_INoRoom:=fun_mk (st:=s_NoRoom_init) l_INoRoom cc_INoRoom kk_INoRoom
 have xc_NoKinds:Xc K c_NoKinds:=⟨ga_NoKinds,gr_NoKinds,sa_NoKinds,hd_NoKinds,by rw[q_NoKinds];show xmro cd_NoKinds.mro=true;rw[r_NoKinds];rfl⟩
 have F_has_only:=fun_mk (st:=s_has_only) l_has_only cc_has_only kk_has_only
 have F_is_kinds:=fun_mk (st:=s_is_kinds) l_is_kinds cc_is_kinds kk_is_kinds
 have F_is_word:=fun_mk (st:=s_is_word) l_is_word cc_is_word kk_is_word
 have F_is_letter:=fun_mk (st:=s_is_letter) l_is_letter cc_is_letter kk_is_letter
 have F_need_kinds:=fun_mk (st:=s_need_kinds) l_need_kinds cc_need_kinds kk_need_kinds
 have F_need_word:=fun_mk (st:=s_need_word) l_need_word cc_need_word kk_need_word
 have F_need_letter:=fun_mk (st:=s_need_letter) l_need_letter cc_need_letter kk_need_letter
 have F_is_within:=fun_mk (st:=s_is_within) l_is_within cc_is_within kk_is_within
 have F_first_spots:=fun_mk (st:=s_first_spots) l_first_spots cc_first_spots kk_first_spots
 have F_spots_behind:=fun_mk (st:=s_spots_behind) l_spots_behind cc_spots_behind kk_spots_behind
 have F_rooms_of:=fun_mk (st:=s_rooms_of) l_rooms_of cc_rooms_of kk_rooms_of
 have F_lcell:=fun_mk (st:=s_lcell) l_lcell cc_lcell kk_lcell
 have F_mixed:=fun_mk (st:=s_mixed) l_mixed cc_mixed kk_mixed
 have F_lkinds:=fun_mk (st:=s_lkinds) l_lkinds cc_lkinds kk_lkinds
 have F_drawn:=fun_mk (st:=s_drawn) l_drawn cc_drawn kk_drawn
 have F_ltext:=fun_mk (st:=s_ltext) l_ltext cc_ltext kk_ltext
 have F_badk:=fun_mk (st:=s_badk) l_badk cc_badk kk_badk
 have F_badw:=fun_mk (st:=s_badw) l_badw cc_badw kk_badw
 have F_badr:=fun_mk (st:=s_badr) l_badr cc_badr kk_badr
 have F_badl:=fun_mk (st:=s_badl) l_badl cc_badl kk_badl
 have F_told:=fun_mk (st:=s_told) l_told cc_told kk_told
 have F_made:=fun_mk (st:=s_made) l_made cc_made kk_made
 have F_asked:=fun_mk (st:=s_asked) l_asked cc_asked kk_asked
 have F_alike:=fun_mk (st:=s_alike) l_alike cc_alike kk_alike
 have F_right:=fun_mk (st:=s_right) l_right cc_right kk_right
 have F_law:=fun_mk (st:=s_law) l_law cc_law kk_law
 have F_MMachine_init:=fun_mk (st:=s_Machine_init) l_MMachine_init cc_MMachine_init kk_MMachine_init
 have F_MMachine_rooms:=fun_mk (st:=s_Machine_rooms) l_MMachine_rooms cc_MMachine_rooms kk_MMachine_rooms
 have F_MMachine_need_room:=fun_mk (st:=s_Machine_need_room) l_MMachine_need_room cc_MMachine_need_room kk_MMachine_need_room
 have F_MMachine_led:=fun_mk (st:=s_Machine_led) l_MMachine_led cc_MMachine_led kk_MMachine_led
 have F_MMachine_way:=fun_mk (st:=s_Machine_way) l_MMachine_way cc_MMachine_way kk_MMachine_way
 have F_MMachine_room_of:=fun_mk (st:=s_Machine_room_of) l_MMachine_room_of cc_MMachine_room_of kk_MMachine_room_of
 have F_MMachine_word_to:=fun_mk (st:=s_Machine_word_to) l_MMachine_word_to cc_MMachine_word_to kk_MMachine_word_to
 have F_MMachine_parting:=fun_mk (st:=s_Machine_parting) l_MMachine_parting cc_MMachine_parting kk_MMachine_parting
 have F_MMachine_ways:=fun_mk (st:=s_Machine_ways) l_MMachine_ways cc_MMachine_ways kk_MMachine_ways
 have F_MMachine_counts_behind:=fun_mk (st:=s_Machine_counts_behind) l_MMachine_counts_behind cc_MMachine_counts_behind kk_MMachine_counts_behind
 refine⟨{ c_LackError:=c_LackError,g_NoWord_init:=g_NoWord_init,e_NoWord_init:=PySem.W.fnOf "__init__" "NoWord.__init__" (defArgs s_NoWord_init) (defBody s_NoWord_init) (defScope s_NoWord_init) .none kV_INoWord dc_INoWord pm_INoWord an_INoWord cd_INoWord ct_INoWord,c_NoWord:=c_NoWord,g_NoRoom_init:=g_NoRoom_init,e_NoRoom_init:=PySem.W.fnOf "__init__" "NoRoom.__init__" (defArgs s_NoRoom_init) (defBody s_NoRoom_init) (defScope s_NoRoom_init) .none kV_INoRoom dc_INoRoom pm_INoRoom an_INoRoom cd_INoRoom ct_INoRoom,c_NoRoom:=c_NoRoom,c_NoKinds:=c_NoKinds,c_Machine:=c_Machine,g_Machine_init:=g_Machine_init,e_Machine_init:=PySem.W.fnOf "__init__" "Machine.__init__" (defArgs s_Machine_init) (defBody s_Machine_init) (defScope s_Machine_init) .none kV_MMachine_init dc_MMachine_init pm_MMachine_init an_MMachine_init cd_MMachine_init ct_MMachine_init,g_Machine_rooms:=g_Machine_rooms,e_Machine_rooms:=PySem.W.fnOf "rooms" "Machine.rooms" (defArgs s_Machine_rooms) (defBody s_Machine_rooms) (defScope s_Machine_rooms) .none kV_MMachine_rooms dc_MMachine_rooms pm_MMachine_rooms an_MMachine_rooms cd_MMachine_rooms ct_MMachine_rooms,g_Machine_need_room:=g_Machine_need_room,e_Machine_need_room:=PySem.W.fnOf "need_room" "Machine.need_room" (defArgs s_Machine_need_room) (defBody s_Machine_need_room) (defScope s_Machine_need_room) .none kV_MMachine_need_room dc_MMachine_need_room pm_MMachine_need_room an_MMachine_need_room cd_MMachine_need_room ct_MMachine_need_room,g_Machine_led:=g_Machine_led,e_Machine_led:=PySem.W.fnOf "led" "Machine.led" (defArgs s_Machine_led) (defBody s_Machine_led) (defScope s_Machine_led) .none kV_MMachine_led dc_MMachine_led pm_MMachine_led an_MMachine_led cd_MMachine_led ct_MMachine_led,g_Machine_way:=g_Machine_way,e_Machine_way:=PySem.W.fnOf "way" "Machine.way" (defArgs s_Machine_way) (defBody s_Machine_way) (defScope s_Machine_way) .none kV_MMachine_way dc_MMachine_way pm_MMachine_way an_MMachine_way cd_MMachine_way ct_MMachine_way,g_Machine_room_of:=g_Machine_room_of,e_Machine_room_of:=PySem.W.fnOf "room_of" "Machine.room_of" (defArgs s_Machine_room_of) (defBody s_Machine_room_of) (defScope s_Machine_room_of) .none kV_MMachine_room_of dc_MMachine_room_of pm_MMachine_room_of an_MMachine_room_of cd_MMachine_room_of ct_MMachine_room_of,g_Machine_word_to:=g_Machine_word_to,e_Machine_word_to:=PySem.W.fnOf "word_to" "Machine.word_to" (defArgs s_Machine_word_to) (defBody s_Machine_word_to) (defScope s_Machine_word_to) .none kV_MMachine_word_to dc_MMachine_word_to pm_MMachine_word_to an_MMachine_word_to cd_MMachine_word_to ct_MMachine_word_to,g_Machine_parting:=g_Machine_parting,e_Machine_parting:=PySem.W.fnOf "parting" "Machine.parting" (defArgs s_Machine_parting) (defBody s_Machine_parting) (defScope s_Machine_parting) .none kV_MMachine_parting dc_MMachine_parting pm_MMachine_parting an_MMachine_parting cd_MMachine_parting ct_MMachine_parting,g_Machine_ways:=g_Machine_ways,e_Machine_ways:=PySem.W.fnOf "ways" "Machine.ways" (defArgs s_Machine_ways) (defBody s_Machine_ways) (defScope s_Machine_ways) .none kV_MMachine_ways dc_MMachine_ways pm_MMachine_ways an_MMachine_ways cd_MMachine_ways ct_MMachine_ways,g_Machine_counts_behind:=g_Machine_counts_behind,e_Machine_counts_behind:=PySem.W.fnOf "counts_behind" "Machine.counts_behind" (defArgs s_Machine_counts_behind) (defBody s_Machine_counts_behind) (defScope s_Machine_counts_behind) .none kV_MMachine_counts_behind dc_MMachine_counts_behind pm_MMachine_counts_behind an_MMachine_counts_behind cd_MMachine_counts_behind ct_MMachine_counts_behind,f_has_only:=f_has_only,d_has_only:=PySem.W.fnOf "has_only" "has_only" (defArgs s_has_only) (defBody s_has_only) (defScope s_has_only) .none kV_has_only dc_has_only pm_has_only an_has_only cd_has_only ct_has_only,f_is_kinds:=f_is_kinds,d_is_kinds:=PySem.W.fnOf "is_kinds" "is_kinds" (defArgs s_is_kinds) (defBody s_is_kinds) (defScope s_is_kinds) .none kV_is_kinds dc_is_kinds pm_is_kinds an_is_kinds cd_is_kinds ct_is_kinds,f_is_word:=f_is_word,d_is_word:=PySem.W.fnOf "is_word" "is_word" (defArgs s_is_word) (defBody s_is_word) (defScope s_is_word) .none kV_is_word dc_is_word pm_is_word an_is_word cd_is_word ct_is_word,f_is_letter:=f_is_letter,d_is_letter:=PySem.W.fnOf "is_letter" "is_letter" (defArgs s_is_letter) (defBody s_is_letter) (defScope s_is_letter) .none kV_is_letter dc_is_letter pm_is_letter an_is_letter cd_is_letter ct_is_letter,f_need_kinds:=f_need_kinds,d_need_kinds:=PySem.W.fnOf "need_kinds" "need_kinds" (defArgs s_need_kinds) (defBody s_need_kinds) (defScope s_need_kinds) .none kV_need_kinds dc_need_kinds pm_need_kinds an_need_kinds cd_need_kinds ct_need_kinds,f_need_word:=f_need_word,d_need_word:=PySem.W.fnOf "need_word" "need_word" (defArgs s_need_word) (defBody s_need_word) (defScope s_need_word) .none kV_need_word dc_need_word pm_need_word an_need_word cd_need_word ct_need_word,f_need_letter:=f_need_letter,d_need_letter:=PySem.W.fnOf "need_letter" "need_letter" (defArgs s_need_letter) (defBody s_need_letter) (defScope s_need_letter) .none kV_need_letter dc_need_letter pm_need_letter an_need_letter cd_need_letter ct_need_letter,f_is_within:=f_is_within,d_is_within:=PySem.W.fnOf "is_within" "is_within" (defArgs s_is_within) (defBody s_is_within) (defScope s_is_within) .none kV_is_within dc_is_within pm_is_within an_is_within cd_is_within ct_is_within,f_first_spots:=f_first_spots,d_first_spots:=PySem.W.fnOf "first_spots" "first_spots" (defArgs s_first_spots) (defBody s_first_spots) (defScope s_first_spots) .none kV_first_spots dc_first_spots pm_first_spots an_first_spots cd_first_spots ct_first_spots,f_spots_behind:=f_spots_behind,d_spots_behind:=PySem.W.fnOf "spots_behind" "spots_behind" (defArgs s_spots_behind) (defBody s_spots_behind) (defScope s_spots_behind) .none kV_spots_behind dc_spots_behind pm_spots_behind an_spots_behind cd_spots_behind ct_spots_behind,f_rooms_of:=f_rooms_of,d_rooms_of:=PySem.W.fnOf "rooms_of" "rooms_of" (defArgs s_rooms_of) (defBody s_rooms_of) (defScope s_rooms_of) .none kV_rooms_of dc_rooms_of pm_rooms_of an_rooms_of cd_rooms_of ct_rooms_of,f_lcell:=f_lcell,d_lcell:=PySem.W.fnOf "_law_cell_at" "_law_cell_at" (defArgs s_lcell) (defBody s_lcell) (defScope s_lcell) .none kV_lcell dc_lcell pm_lcell an_lcell cd_lcell ct_lcell,f_mixed:=f_mixed,d_mixed:=PySem.W.fnOf "_law_mixed" "_law_mixed" (defArgs s_mixed) (defBody s_mixed) (defScope s_mixed) .none kV_mixed dc_mixed pm_mixed an_mixed cd_mixed ct_mixed,f_lkinds:=f_lkinds,d_lkinds:=PySem.W.fnOf "_law_kinds" "_law_kinds" (defArgs s_lkinds) (defBody s_lkinds) (defScope s_lkinds) .none kV_lkinds dc_lkinds pm_lkinds an_lkinds cd_lkinds ct_lkinds,f_drawn:=f_drawn,d_drawn:=PySem.W.fnOf "_law_drawn" "_law_drawn" (defArgs s_drawn) (defBody s_drawn) (defScope s_drawn) .none kV_drawn dc_drawn pm_drawn an_drawn cd_drawn ct_drawn,f_ltext:=f_ltext,d_ltext:=PySem.W.fnOf "_law_text" "_law_text" (defArgs s_ltext) (defBody s_ltext) (defScope s_ltext) .none kV_ltext dc_ltext pm_ltext an_ltext cd_ltext ct_ltext,f_badk:=f_badk,d_badk:=PySem.W.fnOf "_law_bad_kinds" "_law_bad_kinds" (defArgs s_badk) (defBody s_badk) (defScope s_badk) .none kV_badk dc_badk pm_badk an_badk cd_badk ct_badk,f_badw:=f_badw,d_badw:=PySem.W.fnOf "_law_bad_word" "_law_bad_word" (defArgs s_badw) (defBody s_badw) (defScope s_badw) .none kV_badw dc_badw pm_badw an_badw cd_badw ct_badw,f_badr:=f_badr,d_badr:=PySem.W.fnOf "_law_bad_room" "_law_bad_room" (defArgs s_badr) (defBody s_badr) (defScope s_badr) .none kV_badr dc_badr pm_badr an_badr cd_badr ct_badr,f_badl:=f_badl,d_badl:=PySem.W.fnOf "_law_bad_letter" "_law_bad_letter" (defArgs s_badl) (defBody s_badl) (defScope s_badl) .none kV_badl dc_badl pm_badl an_badl cd_badl ct_badl,f_told:=f_told,d_told:=PySem.W.fnOf "_law_told" "_law_told" (defArgs s_told) (defBody s_told) (defScope s_told) .none kV_told dc_told pm_told an_told cd_told ct_told,f_made:=f_made,d_made:=PySem.W.fnOf "_law_made" "_law_made" (defArgs s_made) (defBody s_made) (defScope s_made) .none kV_made dc_made pm_made an_made cd_made ct_made,f_asked:=f_asked,d_asked:=PySem.W.fnOf "_law_asked" "_law_asked" (defArgs s_asked) (defBody s_asked) (defScope s_asked) .none kV_asked dc_asked pm_asked an_asked cd_asked ct_asked,f_alike:=f_alike,d_alike:=PySem.W.fnOf "_law_alike" "_law_alike" (defArgs s_alike) (defBody s_alike) (defScope s_alike) .none kV_alike dc_alike pm_alike an_alike cd_alike ct_alike,f_right:=f_right,d_right:=PySem.W.fnOf "_law_right" "_law_right" (defArgs s_right) (defBody s_right) (defScope s_right) .none kV_right dc_right pm_right an_right cd_right ct_right,f_law:=f_law,d_law:=PySem.W.fnOf "law" "law" (defArgs s_law) (defBody s_law) (defScope s_law) .none kV_law dc_law pm_law an_law cd_law ct_law },{ m_has_only:=PySem.W.mg_of X G a_has_only,f_has_only:=F_has_only,b_has_only:=F_has_only.binds (ps:=["text","letters"]) fun _ _ _ _ _ _ us hl=>match us,hl with | [_,_],_=>rfl,m_is_kinds:=PySem.W.mg_of X G a_is_kinds,f_is_kinds:=F_is_kinds,b_is_kinds:=F_is_kinds.binds (ps:=["thing"]) fun _ _ _ _ _ _ us hl=>match us,hl with | [_],_=>rfl,m_is_word:=PySem.W.mg_of X G a_is_word,f_is_word:=F_is_word,b_is_word:=F_is_word.binds (ps:=["thing","kinds","most"]) fun _ _ _ _ _ _ us hl=>match us,hl with | [_,_,_],_=>rfl,m_is_letter:=PySem.W.mg_of X G a_is_letter,f_is_letter:=F_is_letter,b_is_letter:=F_is_letter.binds (ps:=["thing","kinds"]) fun _ _ _ _ _ _ us hl=>match us,hl with | [_,_],_=>rfl,m_need_kinds:=PySem.W.mg_of X G a_need_kinds,f_need_kinds:=F_need_kinds,b_need_kinds:=F_need_kinds.binds (ps:=["thing"]) fun _ _ _ _ _ _ us hl=>match us,hl with | [_],_=>rfl,m_need_word:=PySem.W.mg_of X G a_need_word,f_need_word:=F_need_word,b_need_word:=F_need_word.binds (ps:=["thing","kinds","most"]) fun _ _ _ _ _ _ us hl=>match us,hl with | [_,_,_],_=>rfl,m_need_letter:=PySem.W.mg_of X G a_need_letter,f_need_letter:=F_need_letter,b_need_letter:=F_need_letter.binds (ps:=["thing","kinds"]) fun _ _ _ _ _ _ us hl=>match us,hl with | [_,_],_=>rfl,m_is_within:=PySem.W.mg_of X G a_is_within,f_is_within:=F_is_within,b_is_within:=F_is_within.binds (ps:=["thing","least","most"]) fun _ _ _ _ _ _ us hl=>match us,hl with | [_,_,_],_=>rfl,m_first_spots:=PySem.W.mg_of X G a_first_spots,f_first_spots:=F_first_spots,b_first_spots:=F_first_spots.binds (ps:=["text"]) fun _ _ _ _ _ _ us hl=>match us,hl with | [_],_=>rfl,m_spots_behind:=PySem.W.mg_of X G a_spots_behind,f_spots_behind:=F_spots_behind,b_spots_behind:=F_spots_behind.binds (ps:=["text","spots","letter"]) fun _ _ _ _ _ _ us hl=>match us,hl with | [_,_,_],_=>rfl,m_rooms_of:=PySem.W.mg_of X G a_rooms_of,f_rooms_of:=F_rooms_of,b_rooms_of:=F_rooms_of.binds (ps:=["text","kinds"]) fun _ _ _ _ _ _ us hl=>match us,hl with | [_,_],_=>rfl,m_lcell:=PySem.W.mg_of X G a_lcell,f_lcell:=F_lcell,b_lcell:=F_lcell.binds (ps:=["_law_script","_law_k"]) fun _ _ _ _ _ _ us hl=>match us,hl with | [_,_],_=>rfl,m_mixed:=PySem.W.mg_of X G a_mixed,f_mixed:=F_mixed,b_mixed:=F_mixed.binds (ps:=["_law_cell","_law_k"]) fun _ _ _ _ _ _ us hl=>match us,hl with | [_,_],_=>rfl,m_lkinds:=PySem.W.mg_of X G a_lkinds,f_lkinds:=F_lkinds,b_lkinds:=F_lkinds.binds (ps:=["_law_cell"]) fun _ _ _ _ _ _ us hl=>match us,hl with | [_],_=>rfl,m_drawn:=PySem.W.mg_of X G a_drawn,f_drawn:=F_drawn,b_drawn:=F_drawn.binds (ps:=["_law_cell","_law_by_digits","_law_kinds_here","_law_many"]) fun _ _ _ _ _ _ us hl=>match us,hl with | [_,_,_,_],_=>rfl,m_ltext:=PySem.W.mg_of X G a_ltext,f_ltext:=F_ltext,b_ltext:=F_ltext.binds (ps:=["_law_cell","_law_way","_law_kinds_here","_law_most"]) fun _ _ _ _ _ _ us hl=>match us,hl with | [_,_,_,_],_=>rfl,m_badk:=PySem.W.mg_of X G a_badk,f_badk:=F_badk,b_badk:=F_badk.binds (ps:=["_law_x"]) fun _ _ _ _ _ _ us hl=>match us,hl with | [_],_=>rfl,m_badw:=PySem.W.mg_of X G a_badw,f_badw:=F_badw,b_badw:=F_badw.binds (ps:=["_law_x","_law_kinds_here","_law_most"]) fun _ _ _ _ _ _ us hl=>match us,hl with | [_,_,_],_=>rfl,m_badr:=PySem.W.mg_of X G a_badr,f_badr:=F_badr,b_badr:=F_badr.binds (ps:=["_law_x","_law_many"]) fun _ _ _ _ _ _ us hl=>match us,hl with | [_,_],_=>rfl,m_badl:=PySem.W.mg_of X G a_badl,f_badl:=F_badl,b_badl:=F_badl.binds (ps:=["_law_x","_law_kinds_here"]) fun _ _ _ _ _ _ us hl=>match us,hl with | [_,_],_=>rfl,m_told:=PySem.W.mg_of X G a_told,f_told:=F_told,b_told:=F_told.binds (ps:=["_law_error"]) fun _ _ _ _ _ _ us hl=>match us,hl with | [_],_=>rfl,m_made:=PySem.W.mg_of X G a_made,f_made:=F_made,b_made:=F_made.binds (ps:=["_law_text_here","_law_kinds_here"]) fun _ _ _ _ _ _ us hl=>match us,hl with | [_,_],_=>rfl,m_asked:=PySem.W.mg_of X G a_asked,f_asked:=F_asked,b_asked:=F_asked.binds (ps:=["_law_machine","_law_way","_law_one","_law_other"]) fun _ _ _ _ _ _ us hl=>match us,hl with | [_,_,_,_],_=>rfl,m_alike:=PySem.W.mg_of X G a_alike,f_alike:=F_alike,b_alike:=F_alike.binds (ps:=["_law_found","_law_word","_law_thing"]) fun _ _ _ _ _ _ us hl=>match us,hl with | [_,_,_],_=>rfl,m_right:=PySem.W.mg_of X G a_right,f_right:=F_right,b_right:=F_right.binds (ps:=["_law_machine","_law_kinds_here","_law_x","_law_y"]) fun _ _ _ _ _ _ us hl=>match us,hl with | [_,_,_,_],_=>rfl,m_law:=PySem.W.mg_of X G a_law,f_law:=F_law,b_law:=F_law.binds (ps:=["_law_script"]) fun _ _ _ _ _ _ us hl=>match us,hl with | [_],_=>rfl,m_LackError:=PySem.W.mg_of X G a_LackError,x_LackError:=⟨xc_LackError,⟨_,_,_,_,_,_,_,_,_,_,_,_,_,_,_,_,ob_LackError⟩,kp_LackError⟩,xi_LackError:=⟨xc_LackError,ha_LackError,oc_hn,oc_tk⟩,k_LackError:=⟨⟨_,q_LackError,r_LackError⟩,ty_LackError,rfl⟩,i_LackError:=i_LackError,r_LackError:=⟨rs_LackError,rr_LackError,rf_LackError,rfl⟩,m_NoWord:=PySem.W.mg_of X G a_NoWord,x_NoWord:=⟨xc_NoWord,⟨_,_,_,_,_,_,_,_,_,_,_,_,_,_,_,_,ob_NoWord⟩,kp_NoWord⟩,xi_NoWord:=⟨xc_NoWord,ha_NoWord,oc_hn,oc_tk⟩,k_NoWord:=⟨⟨_,q_NoWord,r_NoWord⟩,ty_NoWord,rfl⟩,i_NoWord:=i_NoWord,fn_NoWord:=fn_NoWord,n_NoWord_word:=n_NoWord_word,fi_NoWord:=F_INoWord,b_NoWord:=F_INoWord.binds (ps:=["self","word"]) fun _ _ _ _ _ _ us hl=>match us,hl with | [_,_],_=>rfl,m_NoRoom:=PySem.W.mg_of X G a_NoRoom,x_NoRoom:=⟨xc_NoRoom,⟨_,_,_,_,_,_,_,_,_,_,_,_,_,_,_,_,ob_NoRoom⟩,kp_NoRoom⟩,xi_NoRoom:=⟨xc_NoRoom,ha_NoRoom,oc_hn,oc_tk⟩,k_NoRoom:=⟨⟨_,q_NoRoom,r_NoRoom⟩,ty_NoRoom,rfl⟩,i_NoRoom:=i_NoRoom,fn_NoRoom:=fn_NoRoom,n_NoRoom_room:=n_NoRoom_room,fi_NoRoom:=F_INoRoom,b_NoRoom:=F_INoRoom.binds (ps:=["self","room"]) fun _ _ _ _ _ _ us hl=>match us,hl with | [_,_],_=>rfl,m_NoKinds:=PySem.W.mg_of X G a_NoKinds,x_NoKinds:=⟨xc_NoKinds,⟨_,_,_,_,_,_,_,_,_,_,_,_,_,_,_,_,ob_NoKinds⟩,kp_NoKinds⟩,xi_NoKinds:=⟨xc_NoKinds,ha_NoKinds,oc_hn,oc_tk⟩,k_NoKinds:=⟨⟨_,q_NoKinds,r_NoKinds⟩,ty_NoKinds,rfl⟩,i_NoKinds:=i_NoKinds,m_Machine:=PySem.W.mg_of X G a_Machine,cr_Machine:=⟨rs_Machine,rr_Machine,rf_Machine,rfl⟩,cl_Machine:=⟨pg_Machine,hd_Machine,po_Machine,sa_Machine⟩,mk_Machine:=⟨mk_Machine,in_Machine,fn_MMachine_init,kc_Machine⟩,me_Machine_rooms:=⟨me_Machine_rooms,fn_MMachine_rooms,kk_MMachine_rooms⟩,me_Machine_need_room:=⟨me_Machine_need_room,fn_MMachine_need_room,kk_MMachine_need_room⟩,me_Machine_led:=⟨me_Machine_led,fn_MMachine_led,kk_MMachine_led⟩,me_Machine_way:=⟨me_Machine_way,fn_MMachine_way,kk_MMachine_way⟩,me_Machine_room_of:=⟨me_Machine_room_of,fn_MMachine_room_of,kk_MMachine_room_of⟩,me_Machine_word_to:=⟨me_Machine_word_to,fn_MMachine_word_to,kk_MMachine_word_to⟩,me_Machine_parting:=⟨me_Machine_parting,fn_MMachine_parting,kk_MMachine_parting⟩,me_Machine_ways:=⟨me_Machine_ways,fn_MMachine_ways,kk_MMachine_ways⟩,me_Machine_counts_behind:=⟨me_Machine_counts_behind,fn_MMachine_counts_behind,kk_MMachine_counts_behind⟩,n_Machine_own_kinds:=n_Machine_own_kinds,n_Machine_own_rooms:=n_Machine_own_rooms,ty_Machine:=fun e=>.ins e ⟨pg_Machine,hd_Machine,po_Machine,sa_Machine⟩ ha_Machine ow_hn ow_tk mo_Machine,fm_Machine_init:=F_MMachine_init,kp_Machine_init:=kk_MMachine_init,b_Machine_init:=F_MMachine_init.binds (ps:=["self","text","kinds"]) fun _ _ _ _ _ _ us hl=>match us,hl with | [_,_,_],_=>rfl,fm_Machine_rooms:=F_MMachine_rooms,kp_Machine_rooms:=kk_MMachine_rooms,b_Machine_rooms:=F_MMachine_rooms.binds (ps:=["self"]) fun _ _ _ _ _ _ us hl=>match us,hl with | [_],_=>rfl,fm_Machine_need_room:=F_MMachine_need_room,kp_Machine_need_room:=kk_MMachine_need_room,b_Machine_need_room:=F_MMachine_need_room.binds (ps:=["self","room"]) fun _ _ _ _ _ _ us hl=>match us,hl with | [_,_],_=>rfl,fm_Machine_led:=F_MMachine_led,kp_Machine_led:=kk_MMachine_led,b_Machine_led:=F_MMachine_led.binds (ps:=["self","room","letter"]) fun _ _ _ _ _ _ us hl=>match us,hl with | [_,_,_],_=>rfl,fm_Machine_way:=F_MMachine_way,kp_Machine_way:=kk_MMachine_way,b_Machine_way:=F_MMachine_way.binds (ps:=["self","room","letter"]) fun _ _ _ _ _ _ us hl=>match us,hl with | [_,_,_],_=>rfl,fm_Machine_room_of:=F_MMachine_room_of,kp_Machine_room_of:=kk_MMachine_room_of,b_Machine_room_of:=F_MMachine_room_of.binds (ps:=["self","word"]) fun _ _ _ _ _ _ us hl=>match us,hl with | [_,_],_=>rfl,fm_Machine_word_to:=F_MMachine_word_to,kp_Machine_word_to:=kk_MMachine_word_to,b_Machine_word_to:=F_MMachine_word_to.binds (ps:=["self","room"]) fun _ _ _ _ _ _ us hl=>match us,hl with | [_,_],_=>rfl,fm_Machine_parting:=F_MMachine_parting,kp_Machine_parting:=kk_MMachine_parting,b_Machine_parting:=F_MMachine_parting.binds (ps:=["self","room","other"]) fun _ _ _ _ _ _ us hl=>match us,hl with | [_,_,_],_=>rfl,fm_Machine_ways:=F_MMachine_ways,kp_Machine_ways:=kk_MMachine_ways,b_Machine_ways:=F_MMachine_ways.binds (ps:=["self"]) fun _ _ _ _ _ _ us hl=>match us,hl with | [_],_=>rfl,fm_Machine_counts_behind:=F_MMachine_counts_behind,kp_Machine_counts_behind:=kk_MMachine_counts_behind,b_Machine_counts_behind:=F_MMachine_counts_behind.binds (ps:=["self","counts"]) fun _ _ _ _ _ _ us hl=>match us,hl with | [_,_],_=>rfl,nd:=nd,z_len:=PySem.W.mg_none_of X G z_len,z_range:=PySem.W.mg_none_of X G z_range,z_isinstance:=PySem.W.mg_none_of X G z_isinstance,z_all:=PySem.W.mg_none_of X G z_all,z_max:=PySem.W.mg_none_of X G z_max,z_min:=PySem.W.mg_none_of X G z_min,z_list:=PySem.W.mg_none_of X G z_list,z_tuple:=PySem.W.mg_none_of X G z_tuple,z_set:=PySem.W.mg_none_of X G z_set,z_sorted:=PySem.W.mg_none_of X G z_sorted,z_str:=PySem.W.mg_none_of X G z_str,z_int:=PySem.W.mg_none_of X G z_int,z_bool:=PySem.W.mg_none_of X G z_bool,z_sum:=PySem.W.mg_none_of X G z_sum,z_ValueError:=PySem.W.mg_none_of X G z_ValueError,c_SMALL_LETTERS:=⟨_,PySem.W.mg_of X G c_SMALL_LETTERS⟩,c_MOST_KINDS:=⟨_,PySem.W.mg_of X G c_MOST_KINDS⟩,c_MOST_IN_STRIP:=⟨_,PySem.W.mg_of X G c_MOST_IN_STRIP⟩,c_MOST_ASKED:=⟨_,PySem.W.mg_of X G c_MOST_ASKED⟩,bl:=fun s u=>.of_eq rfl }⟩
end Pk15
namespace Pk15
open PySem L2
def LET:List Nat:=[97,98,99,100,101,102,103,104,105,106,107,108,109,110,111,112,113,114,115,116,117,118,119,120,121,122]
def isk (l:List Nat):Bool:=decide (1≤l.length)&&decide (l.length≤4)&&(l.all fun c=>LET.contains c)&&decide (signs l=sortT (ddl (signs l)))
def isw (l m:List Nat)(most:Int):Bool:=decide ((l.length:Int)≤most)&&l.all fun c=>m.contains c
def tellG:List Nat→List Nat→Bool
 | _,[]=>true
 | last,c::r=>decide (c∈LET)&&decide (last < [c])&&tellG [c] r
def tellsB (l:List Nat):Bool:=decide (1≤l.length)&&decide (l.length≤4)&&tellG [] l
theorem one_lt {a b:Nat}:([a] < [b])↔a<b:=by
 constructor
 ·intro h;cases h with
  | rel h=>exact h
  | cons h=>cases h
 ·exact fun h=>List.Lex.rel h
theorem tell_iff:∀(l:List Nat) (d:Nat),tellG [d] l=true↔(∀c∈l,c∈LET)∧(d::l).Pairwise (· < ·)
 | [],d=>by simp[tellG]
 | c::r,d=>by
  rw[tellG,Bool.and_eq_true,Bool.and_eq_true,decide_eq_true_iff,decide_eq_true_iff,one_lt,tell_iff r c]
  simp only[List.pairwise_cons,List.mem_cons,forall_eq_or_imp]
  constructor
  ·rintro⟨⟨h1,h2⟩,h3,h4,h5⟩
   exact⟨⟨h1,h3⟩,⟨h2,fun x hx=>Nat.lt_trans h2 (h4 x hx)⟩,h4,h5⟩
  ·rintro⟨⟨h1,h3⟩,⟨h2,_⟩,h4,h5⟩
   exact⟨⟨h1,h2⟩,h3,h4,h5⟩
theorem tell0_iff (l:List Nat):tellG [] l=true↔(∀c∈l,c∈LET)∧l.Pairwise (· < ·):=by
 cases l with
 | nil=>simp[tellG]
 | cons c r=>
  rw[tellG,Bool.and_eq_true,Bool.and_eq_true,decide_eq_true_iff,decide_eq_true_iff,tell_iff r c]
  simp only[List.mem_cons,forall_eq_or_imp]
  constructor
  ·rintro⟨⟨h1,_⟩,h3,h4⟩;exact⟨⟨h1,h3⟩,h4⟩
  ·rintro⟨⟨h1,h3⟩,h4⟩;exact⟨⟨h1,by simp⟩,h3,h4⟩
theorem foldl_addT:∀(ls acc:List (List Nat)),(acc++ls).Nodup→ls.foldl addT acc=acc++ls
 | [],acc,_=>by simp
 | x::ls,acc,h=>by
  have hx:¬x∈acc:=by
   rw[List.nodup_append]at h
   exact fun hm=>h.2.2 x hm x List.mem_cons_self rfl
  rw[List.foldl_cons,addT,if_neg hx,foldl_addT ls (acc++[x]) (by simpa using h)]
  simp
theorem signs_nodup {l:List Nat}(h:l.Pairwise (· < ·)):(signs l).Nodup:=by
 unfold signs List.Nodup
 rw[List.pairwise_map]
 exact h.imp fun hab e=>by injection e with e;omega
theorem ddl_nodup (ls:List (List Nat)):(ddl ls).Nodup:=by rw[←dd_list];exact dd_nodup _
theorem sorted_iff (l:List Nat):signs l=sortT (ddl (signs l))↔l.Pairwise (· < ·):=by
 constructor
 ·intro e
  have h1:(signs l).Pairwise (fun a b=>leT a b=true):=by rw[e];exact sortT_sorted _
  have h2:(signs l).Nodup:=by rw[e];exact(sortT_perm _).nodup_iff.mpr (ddl_nodup _)
  unfold signs at h1
  unfold signs List.Nodup at h2
  rw[List.pairwise_map]at h1 h2
  refine(h1.and h2).imp ?_
  rintro a b ⟨x,y⟩
  have y':a≠b:=fun e=>y (by rw[e])
  have x':¬([b] < [a]):=by simpa [leT] using x
  rw[one_lt]at x'
  omega
 ·intro h
  have e:ddl (signs l)=signs l:=by unfold ddl;rw[foldl_addT _ _ (by simpa using signs_nodup h)];simp
  rw[e]
  refine sortT_uniq (List.Perm.refl _) ?_
  unfold signs
  rw[List.pairwise_map]
  refine h.imp fun {a b} hab=>?_
  have:¬([b] < [a]):=by rw[one_lt];omega
  simpa [leT] using this
theorem isk_tells (l:List Nat):isk l=tellsB l:=by
 have h1:(l.all fun c=>LET.contains c)=decide (∀c∈l,c∈LET):=by
  rw[Bool.eq_iff_iff,List.all_eq_true,decide_eq_true_iff]
  simp
 have h2:decide (signs l=sortT (ddl (signs l)))=decide (l.Pairwise (· < ·)):=by rw[Bool.eq_iff_iff,decide_eq_true_iff,decide_eq_true_iff,sorted_iff]
 have h3:tellG [] l=(decide (∀c∈l,c∈LET)&&decide (l.Pairwise (· < ·))):=by rw[Bool.eq_iff_iff,Bool.and_eq_true,decide_eq_true_iff,decide_eq_true_iff,tell0_iff]
 unfold isk tellsB
 rw[h1,h2,h3,Bool.and_assoc]
theorem all_range (l m:List Nat):((List.range l.length).map (fun i=>decide (l.getD i 0∈m))).all id=l.all fun c=>m.contains c:=by
 rw[Bool.eq_iff_iff,List.all_eq_true,List.all_eq_true]
 constructor
 ·intro h c hc
  obtain⟨i,hi,rfl⟩:=List.mem_iff_getElem.mp hc
  have:=h _ (List.mem_map_of_mem (List.mem_range.mpr hi))
  simpa [List.getD_eq_getElem?_getD,List.getElem?_eq_getElem hi] using this
 ·intro h b hb
  obtain⟨i,hi,rfl⟩:=List.mem_map.mp hb
  have hi:=List.mem_range.mp hi
  have:=h _ (List.getElem_mem hi)
  simpa [List.getD_eq_getElem?_getD,List.getElem?_eq_getElem hi] using this
def cell (ns:List Int)(k:Int):Int:=ns.getD k.toNat 0
theorem atI_map {ns:List Int}{k:Int}(h0:0≤k)(h1:k<ns.length):atI (ns.map V.int) k=some (.int (cell ns k)):=by
 have hk:k.toNat<ns.length:=by omega
 unfold atI ixN cell
 rw[List.length_map,if_pos h0,if_pos h1,Option.bind_some,List.getElem?_map,List.getD_eq_getElem?_getD,List.getElem?_eq_getElem hk]
 rfl
theorem lenTx {K:PySem.W.Frag}{H:Hp}{l:List Nat}(h:l.length≤1000):LenV K (tx l) H l.length:=by
 have e:(⟨l.toArray⟩:Str).length=l.length:=by simp[Str.length]
 have:l.length≤sizeLine:=Nat.le_trans h (by rw[sizeLine_eq];decide)
 exact⟨by rw[e];exact this,e.symm⟩
theorem cm {x y m:Int}(h:0<m)(h2:m≤2 ^ 64):CMul (x % m) y:=.inl ⟨by have:=Int.emod_nonneg x (show m≠0 by omega);omega,by have:=Int.emod_lt_of_pos x h;omega⟩
theorem kit_ss {K:PySem.W.Frag}{t:Value}:PySem.W.kitOne K t t=some true:=by unfold PySem.W.kitOne;simp
theorem atI_ok {α:Type}{xs:List α}{i:Int}(h0:0≤i)(h1:i<xs.length):∃v,atI xs i=some v∧v∈xs:=by
 have hi:i.toNat<xs.length:=by omega
 refine⟨xs[i.toNat],?_,List.getElem_mem hi⟩
 unfold atI ixN
 rw[if_pos h0,if_pos h1,Option.bind_some,List.getElem?_eq_getElem hi]
theorem flat_tx (xs:List (List Nat)):(xs.map tx).all flatV=true:=by
 rw[List.all_eq_true]
 intro v hv
 obtain⟨x,_,rfl⟩:=List.mem_map.mp hv
 rfl
theorem same_upd3 {H H2:Hp}{e:Addr}{o':HO}(s:Same H H2)(h:H e=none):Same H (upd H2 e o'):=fun b u hb=>by
 have:b≠e:=fun z=>by rw[z,h]at hb;cases hb
 rw[upd_ne this];exact s _ _ hb
theorem filt_range {α:Type}(p:α→Bool)(d:α)(ls:List α):((List.range ls.length).filter fun i=>p (ls.getD i d)).map (fun i=>ls.getD i d)=ls.filter p:=by
 have e:(List.range ls.length).map (fun i=>ls.getD i d)=ls:=by
  apply List.ext_getElem
  ·simp
  ·intro i h1 h2
   simp[h2]
 have h:=List.filter_map (p:=p) (f:=fun i=>ls.getD i d) (l:=List.range ls.length)
 rw[e]at h
 rw[h]
 rfl
theorem deqs_tx:∀(xs ys:List (List Nat)),deqs ((xs.map tx).map DT.f) ((ys.map tx).map DT.f)=decide (xs=ys)
 | [],[]=>by unfold deqs;rfl
 | [],y::ys=>by simp only[List.map_cons,List.map_nil];unfold deqs;rfl
 | x::xs,[]=>by simp only[List.map_cons,List.map_nil];unfold deqs;rfl
 | x::xs,y::ys=>by
  simp only[List.map_cons]
  unfold deqs
  rw[deqs_tx xs ys]
  have e:deq (DT.f (tx x)) (DT.f (tx y))=decide (x=y):=by
   unfold deq
   rw[←dec_tx]
   show ((⟨x.toArray⟩:Str) == ⟨y.toArray⟩)=_
   rw[Bool.eq_iff_iff,beq_iff_eq,decide_eq_true_iff]
   exact⟨fun h=>by unfold tx;rw[h],fun h=>by unfold tx at h;injection h⟩
  rw[e,Bool.eq_iff_iff,Bool.and_eq_true,decide_eq_true_iff,decide_eq_true_iff,decide_eq_true_iff,List.cons.injEq]
theorem eqL_tx {K:PySem.W.Frag}{H:Hp}{Q:VK}{a b:Addr}{xs ys:List (List Nat)}(h1:SqL K H a (xs.map tx))(h2:SqL K H b (ys.map tx))(q:Q (.bl (decide (xs=ys))) H):rEqD K false (.ref a) (.ref b) H Q:=
 .inr ⟨_,_,datL h1 (flat_tx _),datL h2 (flat_tx _),fun z=>Bool.false_ne_true z.1,(ownL h1 (flat_tx _)).2.2,by
  unfold deq
  rw[deqs_tx]
  exact q⟩
theorem let_str:V.str (Str.ofString "abcdefghijklmnopqrstuvwxyz")=tx LET:=congrArg V.str (by decide +kernel)
theorem ddl_len (l:List Nat):(ddl (signs l)).length≤l.length:=by
 have:∀(ls acc:List (List Nat)),(ls.foldl addT acc).length≤acc.length+ls.length:=by
  intro ls
  induction ls with
  | nil=>intro acc;simp
  | cons x ls ih=>
   intro acc
   rw[List.foldl_cons]
   refine Nat.le_trans (ih _) ?_
   unfold addT
   split<;>simp<;>omega
 have h:=this (signs l) []
 unfold ddl
 unfold signs at h ⊢
 simpa using h
theorem signs_length (l:List Nat):(signs l).length=l.length:=by unfold signs;rw[List.length_map]
theorem kit_is {K:PySem.W.Frag}:PySem.W.kitOne K (.type "int") (.type "str")=some false:=by rfl
theorem kit_ib {K:PySem.W.Frag}:PySem.W.kitOne K (.type "int") (.type "bool")=some false:=by rfl
theorem kt:¬(("own_text":Str)="own_kinds"):=by decide +kernel
structure StripOk (l m:List Nat):Prop where
 k:isk m=true
 m1:1≤m.length
 m4:m.length≤4
 l40:l.length≤40
 mem:∀x∈l,x∈m
theorem isw_ok {l m:List Nat}(h:StripOk l m):isw l m 40=true:=by
 have h2:=h.l40
 unfold isw
 rw[Bool.and_eq_true,decide_eq_true_iff,List.all_eq_true]
 exact⟨by omega,fun x hx=>by simpa using h.mem x hx⟩
theorem isk_of {m:List Nat}(h1:1≤m.length)(h4:m.length≤4)(hm:∀c∈m,c∈LET)(hp:m.Pairwise (· < ·)):isk m=true:=by
 rw[isk_tells]
 unfold tellsB
 rw[(tell0_iff m).mpr ⟨hm,hp⟩]
 simp[h1,h4]
theorem cutTo (l:List Nat){i:Int}(h:0≤i):cut l none (some i)=l.take i.toNat:=by
 obtain⟨k,rfl⟩:∃k:Nat,i=(k:Int):=⟨i.toNat,by omega⟩
 rw[cut_to,Int.toNat_natCast]
theorem cutFrom (l:List Nat){i:Int}(h:0≤i):cut l (some i) none=l.drop i.toNat:=by
 obtain⟨k,rfl⟩:∃k:Nat,i=(k:Int):=⟨i.toNat,by omega⟩
 rw[cut_from,Int.toNat_natCast]
theorem iteT' {p q:Prop}[Decidable True](h:p):if True then p else q:=by rw[if_pos True.intro];exact h
theorem repT_len (l:List Nat)(n:Int):(repT l n).length=n.toNat*l.length:=by unfold repT;simp
theorem repT_mem {l:List Nat}{n:Int}{x:Nat}(h:x∈repT l n):x∈l:=by
 unfold repT at h
 obtain⟨y,hy,hx⟩:=List.mem_flatten.mp h
 rw[(List.mem_replicate.mp hy).2]at hx
 exact hx
theorem take_next {α:Type}{l:List α}{i:Nat}{x:α}(h:l[i]?=some x):l.take (i+1)=l.take i++[x]:=by rw[List.take_succ,h];rfl
theorem mem_cut {x:Nat}{l:List Nat}{lo hi:Option Int}(h:x∈cut l lo hi):x∈l:=List.mem_of_mem_drop (List.mem_of_mem_take h)
def fs1 (f:Str):List V→List (Str×V):=fun r=>putF f (r.getD 0 .non) []
theorem fs1_get {f:Str}{vs:List V}:(fs1 f vs).lookup f=some (vs.getD 0 .non):=by unfold fs1;rw[lookup_putF,if_pos rfl]
def SelfEq (K:PySem.W.Frag)(H:Hp)(v:V):Prop:=(∃d,Own K H d v)∨∃(a:Addr) (kvs:List (Key×V)),v=.ref a∧H a=some (.dK kvs)
def Oth (K:PySem.W.Frag)(H:Hp)(v:V):Prop:=∃T b,TyX K H v (.type T)∧PySem.W.kitOne K (.type T) (.type "str")=some false∧PySem.W.kitOne K (.type T) (.type "bool")=some b∧SelfEq K H v
def BadK (K:PySem.W.Frag)(H:Hp)(v:V):Prop:=(∃l:List Nat,v=tx l∧l.length≤1000∧isk l=false)∨Oth K H v
def BadW (K:PySem.W.Frag)(H:Hp)(v:V)(m:List Nat)(most:Int):Prop:=(∃l:List Nat,v=tx l∧l.length≤1000∧isw l m most=false)∨Oth K H v
structure KOk (m:List Nat):Prop where
 k:isk m=true
 m1:1≤m.length
 m4:m.length≤4
theorem KOk.lets {m:List Nat}(h:KOk m):∀c∈m,97≤c∧c≤122:=by
 have h1:=h.k
 rw[isk_tells]at h1
 unfold tellsB at h1
 rw[Bool.and_eq_true]at h1
 intro c hc
 have:=((tell0_iff m).mp h1.2).1 c hc
 revert this
 unfold LET
 simp only[List.mem_cons,List.not_mem_nil,or_false]
 omega
theorem isk_no {l:List Nat}{c:Nat}(h:c∈l)(hc:¬(97≤c∧c≤122)):isk l=false:=by
 cases e:isk l with
 | false=>rfl
 | true=>
  have h1:=e
  rw[isk_tells]at h1
  unfold tellsB at h1
  rw[Bool.and_eq_true,Bool.and_eq_true,decide_eq_true_eq,decide_eq_true_eq]at h1
  exact absurd ((KOk.lets ⟨e,h1.1.1,h1.1.2⟩) c h) hc
theorem isk_pw {l:List Nat}(h:isk l=true):1≤l.length∧l.length≤4∧l.Pairwise (· < ·):=by
 rw[isk_tells]at h
 unfold tellsB at h
 rw[Bool.and_eq_true,Bool.and_eq_true,decide_eq_true_eq,decide_eq_true_eq]at h
 exact⟨h.1.1,h.1.2,((tell0_iff l).mp h.2).2⟩
theorem isw_out {l m:List Nat}{c:Nat}{most:Int}(h:c∈l)(hc:c∉m):isw l m most=false:=by
 unfold isw
 rw[Bool.and_eq_false_iff]
 right
 rw[List.all_eq_false]
 exact⟨c,h,by simpa using hc⟩
theorem isw_long {l m:List Nat}{most:Int}(h:most<l.length):isw l m most=false:=by
 unfold isw
 rw[Bool.and_eq_false_iff]
 left
 rw[decide_eq_false_iff_not]
 omega
theorem isw_yes {l m:List Nat}{most:Int}(h:(l.length:Int)≤most)(hm:∀x∈l,x∈m):isw l m most=true:=by
 unfold isw
 rw[Bool.and_eq_true,decide_eq_true_iff,List.all_eq_true]
 exact⟨h,fun x hx=>by simpa using hm x hx⟩
theorem same_upd2 {H:Hp}{e:Addr}{o o':HO}(h:H e=none):Same H (upd (upd H e o) e o'):=fun b u hb=>by
 have:b≠e:=fun z=>by rw[z,h]at hb;cases hb
 rw[upd_ne this,upd_ne this];exact hb
theorem raise_any {H:Hp}{e C:Addr}{fs:List (Str×V)}(x:XAt H e C fs):∃d,H e=some (xo e C d)∧XAny (upd H e (xr e C d)) e C fs:=by
 cases x with
 | bare h=>exact⟨none,h,.bare upd_same⟩
 | @full d _ h1 h2 h3=>exact⟨some d,h1,.full upd_same (by rw[upd_ne h3];exact h2) h3⟩
theorem TyX.same {K:PySem.W.Frag}{H H':Hp}{v:V}{t:Value}(h:TyX K H v t)(s:Same H H'):TyX K H' v t:=by
 cases h with
 | pl h=>
  refine .pl ?_
  cases h with
  | non=>exact .non
  | bl x=>exact .bl x
  | int i=>exact .int i
  | str x=>exact .str x
  | flt x=>exact .flt x
  | lst e=>exact .lst (s _ _ e)
  | frz e=>exact .frz (s _ _ e)
  | tup e=>exact .tup (s _ _ e)
  | dK e=>exact .dK (s _ _ e)
  | dT e=>exact .dT (s _ _ e)
  | ins e cl ha hn htk hm=>exact .ins (s _ _ e) cl ha hn htk hm
 | seqL h=>exact .seqL (s.seq h)
 | seqT h=>exact .seqT (s.seqT h)
 | exc x i=>exact .exc (x.same s) i
theorem Oth.same {K:PySem.W.Frag}{H H':Hp}{v:V}(o:Oth K H v)(s:Same H H'):Oth K H' v:=by
 obtain⟨T,b,ty,kt,kb,se⟩:=o
 refine⟨T,b,TyX.same ty s,kt,kb,?_⟩
 rcases se with⟨d,o⟩|⟨b,kvs,rfl,hb⟩
 ·exact .inl ⟨d,o.same s⟩
 ·exact .inr ⟨b,kvs,rfl,s _ _ hb⟩
theorem BadK.same {K:PySem.W.Frag}{H H':Hp}{v:V}(o:BadK K H v)(s:Same H H'):BadK K H' v:=o.imp id fun o=>o.same s
theorem BadW.same {K:PySem.W.Frag}{H H':Hp}{v:V}{m:List Nat}{most:Int}(o:BadW K H v m most)(s:Same H H'):BadW K H' v m most:=o.imp id fun o=>o.same s
theorem kit_bs {K:PySem.W.Frag}:PySem.W.kitOne K (.type "bool") (.type "str")=some false:=by rfl
theorem kit_ns {K:PySem.W.Frag}:PySem.W.kitOne K (.type "NoneType") (.type "str")=some false:=by rfl
theorem kit_ls {K:PySem.W.Frag}:PySem.W.kitOne K (.type "list") (.type "str")=some false:=by rfl
theorem kit_tus {K:PySem.W.Frag}:PySem.W.kitOne K (.type "tuple") (.type "str")=some false:=by rfl
theorem kit_ds {K:PySem.W.Frag}:PySem.W.kitOne K (.type "dict") (.type "str")=some false:=by rfl
theorem kit_nb {K:PySem.W.Frag}:PySem.W.kitOne K (.type "NoneType") (.type "bool")=some false:=by rfl
theorem kit_lb {K:PySem.W.Frag}:PySem.W.kitOne K (.type "list") (.type "bool")=some false:=by rfl
theorem kit_tub {K:PySem.W.Frag}:PySem.W.kitOne K (.type "tuple") (.type "bool")=some false:=by rfl
theorem kit_db {K:PySem.W.Frag}:PySem.W.kitOne K (.type "dict") (.type "bool")=some false:=by rfl
theorem kit_sb {K:PySem.W.Frag}:PySem.W.kitOne K (.type "str") (.type "bool")=some false:=by rfl
theorem oth_int {K:PySem.W.Frag}{H:Hp}{i:Int}:Oth K H (.int i):=⟨"int",false,.pl (.int _),kit_is,kit_ib,.inl ⟨_,ownF rfl⟩⟩
theorem oth_bl {K:PySem.W.Frag}{H:Hp}{i:Bool}:Oth K H (.bl i):=⟨"bool",true,.pl (.bl _),kit_bs,kit_ss,.inl ⟨_,ownF rfl⟩⟩
theorem oth_non {K:PySem.W.Frag}{H:Hp}:Oth K H .non:=⟨"NoneType",false,.pl .non,kit_ns,kit_nb,.inl ⟨_,ownF rfl⟩⟩
theorem oth_lst {K:PySem.W.Frag}{H:Hp}{a:Addr}{xs:List V}(h:H a=some (.lst xs))(hf:xs.all flatV=true):Oth K H (.ref a):=⟨"list",false,.seqL (.mk h),kit_ls,kit_lb,.inl ⟨_,ownL (.mk h) hf⟩⟩
theorem oth_tup {K:PySem.W.Frag}{H:Hp}{a:Addr}{xs:List V}(h:H a=some (.tup xs))(hf:xs.all flatV=true):Oth K H (.ref a):=⟨"tuple",false,.seqT (.mk h),kit_tus,kit_tub,.inl ⟨_,ownT (.mk h) hf⟩⟩
theorem oth_dK {K:PySem.W.Frag}{H:Hp}{a:Addr}{kvs:List (Key×V)}(h:H a=some (.dK kvs)):Oth K H (.ref a):=⟨"dict",false,.pl (.dK h),kit_ds,kit_db,.inr ⟨_,_,rfl,h⟩⟩
theorem isk_f {l:List Nat}(h:isk l=true→False):isk l=false:=by
 cases e:isk l with
 | false=>rfl
 | true=>exact(h e).elim
theorem len_sub:∀(l m:List Nat),l.Nodup→(∀x∈l,x∈m)→l.length≤m.length
 | [],m,_,_=>Nat.zero_le _
 | x::l,m,nd,h=>by
  have hx:=h x List.mem_cons_self
  have nd':=List.nodup_cons.mp nd
  have:=len_sub l (m.erase x) nd'.2 fun y hy=>(List.mem_erase_of_ne (fun e=>by rw[e]at hy;exact nd'.1 hy)).mpr (h y (List.mem_cons_of_mem _ hy))
  rw[List.length_erase_of_mem hx]at this
  have pos:0<m.length:=List.length_pos_of_mem hx
  rw[List.length_cons]
  omega
theorem odd_ex {m A:List Nat}(nd:A.Nodup)(h:m.length<A.length):∃c rest,((List.range A.length).filter fun i=>!decide (A.getD i 0∈m)).map (fun i=>tx [A.getD i 0])=tx [c]::rest∧c∉m∧c∈A:=by
 have e:((List.range A.length).filter fun i=>!decide (A.getD i 0∈m)).map (fun i=>tx [A.getD i 0])=(A.filter fun c=>!decide (c∈m)).map fun c=>tx [c]:=by
  rw[←filt_range (fun c=>!decide (c∈m)) 0 A,List.map_map]
  rfl
 rw[e]
 cases z:A.filter fun c=>!decide (c∈m) with
 | nil=>
  have:=len_sub A m nd fun x hx=>by
   have:=List.filter_eq_nil_iff.mp z x hx
   simpa using this
  omega
 | cons c r=>
  have hc:c∈A.filter fun c=>!decide (c∈m):=by rw[z];exact List.mem_cons_self
  obtain⟨h1,h2⟩:=List.mem_filter.mp hc
  exact⟨c,_,rfl,by simpa using h2,h1⟩
theorem first_ex {m:List Nat}(h:1≤m.length):∃c,atI m 0=some c∧c∈m:=atI_ok (Int.le_refl _) (by omega)
theorem rep1 (c:Nat)(n:Int):repT [c] n=List.replicate n.toNat c:=by
 unfold repT
 generalize n.toNat=k
 induction k with
 | zero=>rfl
 | succ k ih=>rw[List.replicate_succ,List.flatten_cons,ih,List.replicate_succ];rfl
theorem KOk.out {m:List Nat}(h:KOk m){c:Nat}(hc:¬(97≤c∧c≤122)):c∉m:=fun z=>hc (h.lets c z)
theorem atI0 {α:Type}{x:α}{xs:List α}:atI (x::xs) 0=some x:=by
 unfold atI ixN
 rw[if_pos (Int.le_refl _),if_pos (by rw[List.length_cons];omega)]
 rfl
theorem let_at4:∀k<26,LET.getD k 0=97+k:=by decide
theorem let_mem4 {x:Nat}(h1:97≤x)(h2:x≤122):x∈LET:=by
 unfold LET
 simp only[List.mem_cons,List.not_mem_nil,or_false]
 omega
theorem atI_getD {m:List Nat}{i:Int}(h0:0≤i)(h1:i<m.length):atI m i=some (m.getD i.toNat 0):=by
 have h:i.toNat<m.length:=by omega
 unfold atI ixN
 rw[if_pos h0,if_pos h1,Option.bind_some,List.getD_eq_getElem?_getD,List.getElem?_eq_getElem h]
 rfl
theorem with_tail1 {G:Prop}{T C:Hp→Prop}(h1:(∀H7,C H7→T H7)→G)(h2:∀H7,C H7→T H7):G:=h1 h2
theorem with_tailI {G:Prop}{T C:Int→Prop}(h1:(∀n,C n→T n)→G)(h2:∀n,C n→T n):G:=h1 h2
def fldsM (m:List Nat)(q:Addr):List (Str×V):=putF "own_rooms" (.ref q) (putF "own_kinds" (tx m) [])
theorem krm:¬(("own_kinds":Str)="own_rooms"):=by decide +kernel
theorem fldsM_kinds {m:List Nat}{q:Addr}:(fldsM m q).lookup ("own_kinds":Str)=some (tx m):=by unfold fldsM;rw[lookup_putF,if_neg krm,lookup_putF,if_pos rfl]
theorem fldsM_rooms {m:List Nat}{q:Addr}:(fldsM m q).lookup ("own_rooms":Str)=some (.ref q):=by unfold fldsM;rw[lookup_putF,if_pos rfl]
theorem fldsM_no {m:List Nat} {q:Addr} {x:Str} (h1:¬x="own_rooms") (h2:¬x="own_kinds"):(fldsM m q).lookup x=none:=by
 unfold fldsM
 rw[lookup_putF,if_neg h1,lookup_putF,if_neg h2]
 rfl
def MachAt (C:Addr)(H:Hp)(p:Addr)(l m:List Nat)(sp:List (List Nat)):Prop:=∃(dx q:Addr) (ys:List V),H p=some (.ins C dx (fldsM m q))∧H q=some (.lst ys)∧MachOk H l m sp ys
theorem MachAt.same {C:Addr}{H H':Hp}{p:Addr}{l m:List Nat}{sp:List (List Nat)}(r:MachAt C H p l m sp)(s:Same H H'):MachAt C H' p l m sp:=by
 obtain⟨dx,q,ys,h1,h2,h3⟩:=r
 exact⟨dx,q,ys,s _ _ h1,s _ _ h2,h3.same s⟩
def RoomV (l:List Nat)(sp:List (List Nat))(w:List Nat)(v:V):Prop:=(¬Inf w l∧v=.non)∨(Inf w l∧∃j:Nat,sp[j]?=some (spotsAt l w)∧v=.int (j:Int))
theorem MachOk.upd {H:Hp}{p C dx:Addr}{fs:List (Str×V)}{o:HO}{l m:List Nat}{sp:List (List Nat)}{ys:List V}(h:MachOk H l m sp ys)(hp:H p=some (.ins C dx fs)):MachOk (upd H p o) l m sp ys:=by
 refine⟨h.first,h.len,h.nd,fun i y e=>?_⟩
 obtain⟨t,d,w,kvs,e1,h1,h2,r⟩:=h.rooms i y e
 refine⟨t,d,w,kvs,e1,?_,?_,r⟩
 ·rw[upd_ne (fun z=>by rw[z,hp]at h1;cases h1)];exact h1
 ·have nz:d≠p:=fun z=>by
   rcases h2 with h2 | ⟨o,h2⟩
   ·rw[z,hp]at h2;cases h2
   ·rw[z,hp]at h2;cases h2
  rcases h2 with h2 | ⟨o,h2⟩
  ·exact .inl (by rw[upd_ne nz];exact h2)
  ·exact .inr ⟨o,by rw[upd_ne nz];exact h2⟩
theorem MachAt.freeze {C:Addr}{H:Hp}{p pq:Addr}{o:Obj}{kvs:List (Key×V)}{l m:List Nat}{sp:List (List Nat)}(r:MachAt C H p l m sp)(hq:H pq=some (.dK kvs)):MachAt C (upd H pq (.frz o (.dK kvs))) p l m sp:=by
 obtain⟨dx,q,ys,h1,h2,h3⟩:=r
 refine⟨dx,q,ys,by rw[upd_ne (fun z=>by rw[z,hq]at h1;cases h1)];exact h1,by rw[upd_ne (fun z=>by rw[z,hq]at h2;cases h2)];exact h2,h3.first,h3.len,h3.nd,fun i y e=>?_⟩
 obtain⟨t,d,w,kvs',e1,a1,a2,r⟩:=h3.rooms i y e
 refine⟨t,d,w,kvs',e1,by rw[upd_ne (fun z=>by rw[z,hq]at a1;cases a1)];exact a1,?_,r⟩
 by_cases ed:d=pq
 ·rcases a2 with a2 | ⟨o',a2⟩
  ·rw[ed,hq]at a2
   cases a2
   exact .inr ⟨o,by rw[ed];exact upd_same⟩
  ·rw[ed,hq]at a2;cases a2
 ·rcases a2 with a2 | ⟨o',a2⟩
  ·exact .inl (by rw[upd_ne ed];exact a2)
  ·exact .inr ⟨o',by rw[upd_ne ed];exact a2⟩
theorem find_first {l:List Nat}{i:Nat}{r:Int}(hi:i≤l.length)(h:(r=-1∧¬Inf (l.drop i) l)∨∃k:Nat,r=(k:Int)∧AtW l (l.drop i) k∧∀j,j<k→¬AtW l (l.drop i) j):decide (V.int r=V.int (i:Nat))=decide (∀j,j<i→¬AtW l (l.drop i) j):=by
 have hA:AtW l (l.drop i) i:=by
  refine⟨by rw[List.length_drop];omega,?_⟩
  rw[List.take_length]
 rw[Bool.eq_iff_iff,decide_eq_true_iff,decide_eq_true_iff]
 rcases h with⟨_,h⟩|⟨k,rfl,hk,hmin⟩
 ·exact absurd ⟨i,hA⟩ h
 ·constructor
  ·intro e
   injection e with e
   have:k=i:=by omega
   subst this
   exact hmin
  ·intro h2
   have h3:¬k<i:=fun z=>h2 k z hk
   have h4:¬i<k:=fun z=>hmin i z hA
   have:k=i:=by omega
   rw[this]
theorem cut1 {l:List Nat}{s c:Nat}:decide (tx (cut l (some (s:Int)) (some ((s:Int)+1)))=tx [c])=decide (l[s]?=some c):=by
 have e:((s:Int)+1)=((s+1:Nat):Int):=by omega
 rw[dec_tx,e,cut_nn]
 have e2:s+1-s=1:=by omega
 rw[e2,Bool.eq_iff_iff,decide_eq_true_iff,decide_eq_true_iff]
 by_cases h:s<l.length
 ·rw[List.getElem?_eq_getElem h]
  have e3:(l.drop s).take 1=[l[s]]:=by rw[List.take_one,List.head?_drop,List.getElem?_eq_getElem h];rfl
  rw[e3]
  constructor
  ·intro z;injection z with z _;rw[z]
  ·intro z;injection z with z;rw[z]
 ·rw[List.getElem?_eq_none (by omega),List.drop_eq_nil_of_le (by omega)]
  simp
theorem filt_map_range (S:List Nat)(p:Nat→Bool)(f:Nat→Nat):((List.range S.length).filter fun i=>p (S.getD i 0)).map (fun i=>V.int ((f (S.getD i 0):Nat):Int))=(((S.filter p).map f).map fun (i:Nat)=>V.int i):=by
 rw[←filt_range p 0 S,List.map_map,List.map_map]
 rfl
theorem inf_take {w l:List Nat}(h:Inf w l)(k:Nat):Inf (w.take k) l:=by
 obtain⟨i,h1,h2⟩:=h
 have hl:(w.take k).length≤w.length:=by rw[List.length_take];omega
 refine⟨i,by omega,?_⟩
 have e:(l.drop i).take (w.take k).length=((l.drop i).take w.length).take (w.take k).length:=by rw[List.take_take,Nat.min_eq_left hl]
 rw[e,h2,List.length_take]
 by_cases c:k≤w.length
 ·rw[Nat.min_eq_left c]
 ·rw[Nat.min_eq_right (by omega),List.take_length,List.take_of_length_le (by omega)]
def keyT (s:List Nat):List Key:=s.map fun (i:Nat)=>(Sum.inl ((i:Nat):Int):Key)
theorem keyT_kV (s:List Nat):(keyT s).map kV=s.map fun (i:Nat)=>V.int i:=by unfold keyT;rw[List.map_map];rfl
theorem keyT_inj {s t:List Nat}(h:keyT s=keyT t):s=t:=by
 unfold keyT at h
 exact(List.map_inj_right (f:=fun (i:Nat)=>(Sum.inl ((i:Nat):Int):Key)) (fun x y e=>by injection e with e;exact Int.ofNat.inj e)).mp h
def numK (sp:List (List Nat)):List (List Key×V):=sp.zipIdx.map fun p=>(keyT p.1,V.int ((p.2:Nat):Int))
theorem numK_len (sp:List (List Nat)):(numK sp).length=sp.length:=by unfold numK;simp
theorem numK_none {sp:List (List Nat)}{s:List Nat}(h:s∉sp):valV (numK sp) (keyT s)=none:=by
 unfold valV
 have:(numK sp).find? (fun kv=>decide (kv.1=keyT s))=none:=by
  rw[List.find?_eq_none]
  intro kv hkv
  unfold numK at hkv
  obtain⟨p,hp,rfl⟩:=List.mem_map.mp hkv
  have h1:=List.fst_mem_of_mem_zipIdx hp
  intro z
  have z:keyT p.1=keyT s:=of_decide_eq_true z
  exact h (by rw[←keyT_inj z];exact h1)
 first | (rw[this];rfl) | simp[this]
theorem numK_at {sp:List (List Nat)}{s:List Nat}{j:Nat}(nd:sp.Nodup)(h:sp[j]?=some s):valV (numK sp) (keyT s)=some (.int (j:Int)):=by
 have hj:=(List.getElem?_eq_some_iff.mp h).1
 have hs:(numK sp).find? (fun kv=>decide (kv.1=keyT s))=some (keyT s,.int (j:Int)):=by
  rw[List.find?_eq_some_iff_getElem]
  refine⟨by simp,j,by rw[numK_len];exact hj,?_,fun k hk=>?_⟩
  ·unfold numK
   rw[List.getElem_map,List.getElem_zipIdx]
   have:=(List.getElem?_eq_some_iff.mp h).2
   simp[this]
  ·unfold numK
   rw[List.getElem_map,List.getElem_zipIdx]
   have hk':k<sp.length:=by omega
   simp only[Bool.not_eq_true',decide_eq_false_iff_not]
   intro z
   have:=keyT_inj z
   exact absurd (nodup_at nd (List.getElem?_eq_getElem hk') (by rw[this];exact h)) (by omega)
 unfold valV
 first | (rw[hs];rfl) | simp[hs]
theorem numK_push {sp:List (List Nat)}{s:List Nat}(h:s∉sp):putK (numK sp) (keyT s) (.int (sp.length:Int))=numK (sp++[s]):=by
 rw[putK_new _ (numK_none h)]
 unfold numK
 rw[List.zipIdx_append,List.map_append]
 simp
structure RInv (H:Hp)(ps pw pn:Addr)(l:List Nat)(sp ws:List (List Nat))(ts:List Addr):Prop where
 hs:H ps=some (.lst (ts.map V.ref))
 hw:H pw=some (.lst (ws.map tx))
 hn:H pn=some (.dT (numK sp))
 tl:ts.length=sp.length
 tt:∀(i:Nat) (t:Addr) (s:List Nat),ts[i]?=some t→sp[i]?=some s→H t=some (.tup (s.map fun (i:Nat)=>V.int i))
 wl:ws.length=sp.length
 wt:∀(i:Nat) (w s:List Nat),ws[i]?=some w→sp[i]?=some s→s=spotsAt l w∧Inf w l
 nd:sp.Nodup
 f0:sp[0]?=some (firstS l)
theorem RInv.same {H H':Hp}{ps pw pn:Addr}{l:List Nat}{sp ws:List (List Nat)}{ts:List Addr}(r:RInv H ps pw pn l sp ws ts)(s:Same H H'):RInv H' ps pw pn l sp ws ts:=
 ⟨s _ _ r.hs,s _ _ r.hw,s _ _ r.hn,r.tl,fun i t u a b=>s _ _ (r.tt i t u a b),r.wl,r.wt,r.nd,r.f0⟩
theorem RInv.other {H:Hp}{a ps pw pn:Addr}{o0 o:HO}{l:List Nat}{sp ws:List (List Nat)}{ts:List Addr}(r:RInv H ps pw pn l sp ws ts)(h:H a=some o0)(hne:∀xs,o0≠.tup xs)(n1:ps≠a)(n2:pw≠a)(n3:pn≠a):RInv (upd H a o) ps pw pn l sp ws ts:=by
 refine⟨by rw[upd_ne n1];exact r.hs,by rw[upd_ne n2];exact r.hw,by rw[upd_ne n3];exact r.hn,r.tl,fun i t u x y=>?_,r.wl,r.wt,r.nd,r.f0⟩
 have:=r.tt i t u x y
 rw[upd_ne (fun z=>by rw[z,h]at this;exact hne _ (Option.some.inj this))]
 exact this
theorem RInv.push {H:Hp}{ps pw pn tb:Addr}{l:List Nat}{sp ws:List (List Nat)}{ts:List Addr}{s w:List Nat}(r:RInv H ps pw pn l sp ws ts)(n1:ps≠pw)(n2:ps≠pn)(n3:pw≠pn)(hb:H tb=some (.tup (s.map fun (i:Nat)=>V.int i)))(hs:s∉sp)(e:s=spotsAt l w)(hI:Inf w l):
  RInv (upd (upd (upd H pn (.dT (putK (numK sp) (keyT s) (.int (sp.length:Int))))) ps (.lst (ts.map V.ref++[.ref tb]))) pw (.lst (ws.map tx++[tx w]))) ps pw pn l (sp++[s]) (ws++[w]) (ts++[tb]):=by
 have keep:∀t xs,H t=some (.tup xs)→upd (upd (upd H pn (.dT (putK (numK sp) (keyT s) (.int (sp.length:Int))))) ps (.lst (ts.map V.ref++[.ref tb]))) pw (.lst (ws.map tx++[tx w])) t=some (.tup xs):=fun t xs h=>by
  rw[upd_ne (fun z=>by rw[z,r.hw]at h;cases h),upd_ne (fun z=>by rw[z,r.hs]at h;cases h),upd_ne (fun z=>by rw[z,r.hn]at h;cases h)]
  exact h
 refine⟨?_,?_,?_,?_,?_,?_,?_,?_,?_⟩
 ·rw[upd_ne n1,upd_same];simp
 ·rw[upd_same];simp
 ·rw[upd_ne (Ne.symm n3),upd_ne (Ne.symm n2),upd_same,numK_push hs]
 ·rw[List.length_append,List.length_append,r.tl];rfl
 ·intro i t u h1 h2
  by_cases c:i<sp.length
  ·rw[List.getElem?_append_left (by rw[r.tl];exact c)]at h1
   rw[List.getElem?_append_left c]at h2
   exact keep _ _ (r.tt i t u h1 h2)
  ·have hi:i=sp.length:=by have:=(List.getElem?_eq_some_iff.mp h2).1;rw[List.length_append,List.length_singleton]at this;omega
   subst hi
   rw[List.getElem?_append_right (by omega)]at h2
   rw[List.getElem?_append_right (by rw[r.tl];omega),r.tl]at h1
   simp at h1 h2
   rw[←h1,←h2]
   exact keep _ _ hb
 ·rw[List.length_append,List.length_append,r.wl];rfl
 ·intro i v u h1 h2
  by_cases c:i<sp.length
  ·rw[List.getElem?_append_left (by rw[r.wl];exact c)]at h1
   rw[List.getElem?_append_left c]at h2
   exact r.wt i v u h1 h2
  ·have hi:i=sp.length:=by have:=(List.getElem?_eq_some_iff.mp h2).1;rw[List.length_append,List.length_singleton]at this;omega
   subst hi
   rw[List.getElem?_append_right (by omega)]at h2
   rw[List.getElem?_append_right (by rw[r.wl];omega),r.wl]at h1
   simp at h1 h2
   rw[←h1,←h2]
   exact⟨e,hI⟩
 ·rw[List.nodup_append]
  exact⟨r.nd,by simp,fun x hx y hy=>by rw[List.mem_singleton.mp hy];exact fun z=>hs (by rw[←z];exact hx)⟩
 ·rw[List.getElem?_append_left (List.getElem?_eq_some_iff.mp r.f0).1];exact r.f0
theorem RInv.le {H:Hp}{ps pw pn:Addr}{l:List Nat}{sp ws:List (List Nat)}{ts:List Addr}(r:RInv H ps pw pn l sp ws ts)(hl:l.length≤40):sp.length≤1681:=by
 refine rooms_le r.nd (fun s hs=>?_) hl
 obtain⟨i,hi,rfl⟩:=List.mem_iff_getElem.mp hs
 have hw:ws[i]?=some (ws[i]'(by rw[r.wl];exact hi)):=List.getElem?_eq_getElem _
 obtain⟨a,b⟩:=r.wt i _ _ hw (List.getElem?_eq_getElem hi)
 exact⟨_,b,a⟩
def RoomP (H:Hp)(P:Addr→Prop)(l m:List Nat)(sp:List (List Nat))(i:Nat)(y:V):Prop:=∃(t d:Addr) (w:List Nat) (kvs:List (Key×V)),y=.ref t∧H t=some (.tup [tx w,.ref d])∧H d=some (.dK kvs)∧P d∧Inf w l∧w.length≤l.length∧sp[i]?=some (spotsAt l w)∧∀c∈m,Way l sp (spotsAt l w) c (valV kvs (kTx [c]))
theorem RoomP.same {H H':Hp}{P:Addr→Prop}{l m:List Nat}{sp:List (List Nat)}{i:Nat}{y:V}(h:RoomP H P l m sp i y)(s:Same H H'):RoomP H' P l m sp i y:=by
 obtain⟨t,d,w,kvs,e,h1,h2,r⟩:=h
 exact⟨t,d,w,kvs,e,s _ _ h1,s _ _ h2,r⟩
theorem RoomP.mono {H:Hp}{P P':Addr→Prop}{l m:List Nat}{sp:List (List Nat)}{i:Nat}{y:V}(h:RoomP H P l m sp i y)(f:∀d kvs,H d=some (.dK kvs)→P d→P' d):RoomP H P' l m sp i y:=by
 obtain⟨t,d,w,kvs,e,h1,h2,hp,r⟩:=h
 exact⟨t,d,w,kvs,e,h1,h2,f d kvs h2 hp,r⟩
theorem RoomP.other {H:Hp}{a:Addr}{o0 o:HO}{P:Addr→Prop}{l m:List Nat}{sp:List (List Nat)}{i:Nat}{y:V}(r:RoomP H P l m sp i y)(h:H a=some o0)(hne:∀xs,o0≠.tup xs)(hd:∀d,P d→d≠a∨∀kvs,o0≠.dK kvs):RoomP (upd H a o) P l m sp i y:=by
 obtain⟨t,d,w,kvs,e,h1,h2,hp,r⟩:=r
 refine⟨t,d,w,kvs,e,?_,?_,hp,r⟩
 ·rw[upd_ne (fun z=>by rw[z,h]at h1;exact hne _ (Option.some.inj h1))];exact h1
 ·rw[upd_ne (fun z=>?_)]
  ·exact h2
  ·rcases hd d hp with k | k
   ·exact k z
   ·rw[z,h]at h2;exact k _ (Option.some.inj h2)
theorem RoomP.more {H:Hp}{P:Addr→Prop}{l m:List Nat}{sp more:List (List Nat)}{i:Nat}{y:V}(r:RoomP H P l m sp i y):RoomP H P l m (sp++more) i y:=by
 obtain⟨t,d,w,kvs,e,h1,h2,hp,a,b,c,f⟩:=r
 exact⟨t,d,w,kvs,e,h1,h2,hp,a,b,by rw[List.getElem?_append_left (List.getElem?_eq_some_iff.mp c).1];exact c,fun x hx=>(f x hx).more⟩
theorem kTx1 {c d:Nat}:kTx [c]=kTx [d]↔c=d:=⟨fun e=>by unfold kTx at e;injection e with e;injection e with e;injection e with e;injection e,fun e=>by rw[e]⟩
theorem let8_at:∀k<8,([97,98,99,100,101,102,103,104]:List Nat).getD k 0=97+k:=by decide
theorem neV_same {K:PySem.W.Frag}{H:Hp}{Q:VK}{v:V}(hv:v=.non∨∃j:Int,v=.int j)(q:Q (.bl false) H):rEqD K true v v H Q:=by
 rcases hv with rfl | ⟨j,rfl⟩
 ·exact .inl ⟨rfl,by rw[if_pos rfl,decide_eq_true rfl];exact q⟩
 ·exact .inl ⟨rfl,by rw[if_pos rfl,decide_eq_true rfl];exact q⟩
theorem RoomV.one {l:List Nat}{sp:List (List Nat)}{w:List Nat}{v u:V}(nd:sp.Nodup)(h1:RoomV l sp w v)(h2:RoomV l sp w u):v=u:=by
 rcases h1 with⟨a,rfl⟩|⟨a,j,hj,rfl⟩
 ·rcases h2 with⟨b,rfl⟩|⟨b,_⟩
  ·rfl
  ·exact absurd b a
 ·rcases h2 with⟨b,_⟩|⟨b,k,hk,rfl⟩
  ·exact absurd a b
  ·rw[nodup_at nd hj hk]
theorem MachAt.nd {C:Addr}{H:Hp}{p:Addr}{l m:List Nat}{sp:List (List Nat)}(r:MachAt C H p l m sp):sp.Nodup:=by obtain⟨_,_,_,_,_,h⟩:=r;exact h.nd
theorem nV_dec (o:Option Nat):decide (nV o=V.non)=o.isNone:=by
 cases o with
 | none=>exact decide_eq_true rfl
 | some j=>exact decide_eq_false fun z=>by cases z
def muAt (n:Nat)(σ:St):Nat:=match σ[n]? with
 | some (some (.int z))=>1682-z.toNat
 | _=>0
theorem isk_nd {m:List Nat}(h:isk m=true):m.Nodup:=(isk_pw h).2.2.imp fun {a b} hab e=>by omega
theorem CD_get {l:List Nat}{sp W:List (List Nat)}{js:List Nat}{j:Nat}(h:CInv l sp W js)(ns:sp.Nodup):(valV (CD l sp W js) (kInt j)).getD (.int 0)=.int (((inR l sp W j).length:Nat):Int):=by
 by_cases hj:j∈js
 ·rw[CD_val hj];rfl
 ·rw[CD_none hj]
  have:inR l sp W j=[]:=by
   unfold inR
   rw[List.filter_eq_nil_iff]
   intro w hw z
   obtain⟨i,hi,e⟩:=h.cov w hw
   exact hj (by rw[nodup_at ns (of_decide_eq_true z) e];exact hi)
  rw[this]
  rfl
theorem TAll.len {l:List Nat}{k:Nat}{T:List (List Nat)}(h:TAll l k T)(hl:l.length≤40):T.length≤1681:=by
 have:=nodup_le T (allStr l) h.1 fun w hw=>mem_allStr ((h.2 w).mp hw).2
 rw[allStr_len]at this
 have:(l.length+1)*(l.length+1)≤41*41:=Nat.mul_le_mul (by omega) (by omega)
 omega
def XNk (a:Ad)(E:XK)(H:Hp):Prop:=∀e H2,Same H H2→XAny H2 e a.c_NoKinds []→E (.ref a.c_NoKinds) (some e) H2
def XNw (a:Ad)(E:XK)(H:Hp)(v:V):Prop:=∀e H2,Same H H2→XAny H2 e a.c_NoWord (fs1 "word" [v])→E (.ref a.c_NoWord) (some e) H2
theorem XNw.same {a:Ad}{E:XK}{H H':Hp}{v:V}(x:XNw a E H v)(s:Same H H'):XNw a E H' v:=fun e H2 s2 h=>x e H2 (s.trans s2) h
def noStar:Expr→Bool
 | .Starred ..=>false
 | _=>true
theorem star_no {e:Expr}{es:List Expr}{env:Env}(h:noStar e=true):starEach (e::es) env=(false,eval e env)::starEach es env:=by
 cases e<;>first | rfl | cases h
def getL:Stmt→List Expr
 | .Return (some (.Subscript (.List es _) _ _)) _=>es
 | .Assign _ (.List es _) _=>es
 | _=>[]
def putL (es:List Expr):Stmt→Stmt
 | .Return (some (.Subscript (.List _ p) i q)) r=>.Return (some (.Subscript (.List es p) i q)) r
 | .Assign g (.List _ p) q=>.Assign g (.List es p) q
 | s=>s
structure PAz (X:Cx)(es:List Expr)(t:TA):Prop where
 h:PA X es t
theorem paz_nil {X:Cx}:PAz X [] tNil:=⟨pa_nil⟩
theorem paz_cons {X:Cx}{e:Expr}{es:List Expr}{te:TE}{t:TA}(ha:PE X e te)(hr:PAz X es t)(h:noStar e=true:=by rfl):PAz X (e::es) (tCons te t):=⟨pa_cons ha hr.h (star_no h)⟩
theorem pe_lstz {X:Cx}{es:List Expr}{t:TA}{pos:Pos}(ha:PAz X es t):PE X (.List es pos) (tLst t):=pe_lst ha.h
theorem kit_si {K:PySem.W.Frag}:PySem.W.kitOne K (.type "str") (.type "int")=some false:=by rfl
theorem kit_li {K:PySem.W.Frag}:PySem.W.kitOne K (.type "list") (.type "int")=some false:=by rfl
theorem kit_tui {K:PySem.W.Frag}:PySem.W.kitOne K (.type "tuple") (.type "int")=some false:=by rfl
theorem kit_di {K:PySem.W.Frag}:PySem.W.kitOne K (.type "dict") (.type "int")=some false:=by rfl
theorem kit_ni {K:PySem.W.Frag}:PySem.W.kitOne K (.type "NoneType") (.type "int")=some false:=by rfl
def Tame (K:PySem.W.Frag)(H:Hp)(v:V):Prop:=∃T b,TyX K H v (.type T)∧PySem.W.kitOne K (.type T) (.type "bool")=some b∧SelfEq K H v
def NotI (K:PySem.W.Frag)(H:Hp)(v:V):Prop:=∃T b,TyX K H v (.type T)∧PySem.W.kitOne K (.type T) (.type "bool")=some b∧(b=false→PySem.W.kitOne K (.type T) (.type "int")=some false)∧SelfEq K H v
def BadR (K:PySem.W.Frag)(H:Hp)(v:V)(N:Nat):Prop:=(∃i:Int,v=.int i∧(i<0∨(N:Int)≤i))∨NotI K H v
def isl (l m:List Nat):Bool:=isw l m 1&&decide ((l.length:Int)=1)
def BadL (K:PySem.W.Frag)(H:Hp)(v:V)(m:List Nat):Prop:=(∃l:List Nat,v=tx l∧l.length≤1000∧isl l m=false)∨Oth K H v
def XNr (a:Ad)(E:XK)(H:Hp)(v:V):Prop:=∀e H2,Same H H2→XAny H2 e a.c_NoRoom (fs1 "room" [v])→E (.ref a.c_NoRoom) (some e) H2
theorem SelfEq.same {K:PySem.W.Frag}{H H':Hp}{v:V}(se:SelfEq K H v)(s:Same H H'):SelfEq K H' v:=by
 rcases se with⟨d,o⟩|⟨b,kvs,rfl,hb⟩
 ·exact .inl ⟨d,o.same s⟩
 ·exact .inr ⟨b,kvs,rfl,s _ _ hb⟩
theorem NotI.same {K:PySem.W.Frag}{H H':Hp}{v:V}(o:NotI K H v)(s:Same H H'):NotI K H' v:=
 let ⟨T,b,ty,kb,ki,se⟩:=o
 ⟨T,b,TyX.same ty s,kb,ki,se.same s⟩
theorem BadR.same {K:PySem.W.Frag}{H H':Hp}{v:V}{N:Nat}(o:BadR K H v N)(s:Same H H'):BadR K H' v N:=o.imp id fun o=>o.same s
theorem BadL.same {K:PySem.W.Frag}{H H':Hp}{v:V}{m:List Nat}(o:BadL K H v m)(s:Same H H'):BadL K H' v m:=o.imp id fun o=>o.same s
theorem tame_tx {K:PySem.W.Frag}{H:Hp}{l:List Nat}:Tame K H (tx l):=⟨"str",false,.pl (.str _),kit_sb,.inl ⟨_,ownF rfl⟩⟩
theorem Oth.tame {K:PySem.W.Frag}{H:Hp}{v:V}(o:Oth K H v):Tame K H v:=let ⟨T,b,ty,_,kb,se⟩:=o;⟨T,b,ty,kb,se⟩
theorem BadW.tame {K:PySem.W.Frag}{H:Hp}{v:V}{m:List Nat}{most:Int}(o:BadW K H v m most):Tame K H v:=by
 rcases o with⟨l,rfl,_⟩ | o
 ·exact tame_tx
 ·exact Oth.tame o
theorem BadL.tame {K:PySem.W.Frag}{H:Hp}{v:V}{m:List Nat}(o:BadL K H v m):Tame K H v:=by
 rcases o with⟨l,rfl,_⟩ | o
 ·exact tame_tx
 ·exact Oth.tame o
theorem BadR.tame {K:PySem.W.Frag}{H:Hp}{v:V}{N:Nat}(o:BadR K H v N):Tame K H v:=by
 rcases o with⟨i,rfl,_⟩|⟨T,b,ty,kb,_,se⟩
 ·exact Oth.tame oth_int
 ·exact⟨T,b,ty,kb,se⟩
theorem noti_bl {K:PySem.W.Frag}{H:Hp}{i:Bool}:NotI K H (.bl i):=⟨"bool",true,.pl (.bl _),kit_ss,fun e=>(by cases e),.inl ⟨_,ownF rfl⟩⟩
theorem noti_non {K:PySem.W.Frag}{H:Hp}:NotI K H .non:=⟨"NoneType",false,.pl .non,kit_nb,fun _=>kit_ni,.inl ⟨_,ownF rfl⟩⟩
theorem noti_tx {K:PySem.W.Frag}{H:Hp}{l:List Nat}:NotI K H (tx l):=⟨"str",false,.pl (.str _),kit_sb,fun _=>kit_si,.inl ⟨_,ownF rfl⟩⟩
theorem noti_lst {K:PySem.W.Frag}{H:Hp}{a:Addr}{xs:List V}(h:H a=some (.lst xs))(hf:xs.all flatV=true):NotI K H (.ref a):=⟨"list",false,.seqL (.mk h),kit_lb,fun _=>kit_li,.inl ⟨_,ownL (.mk h) hf⟩⟩
theorem noti_tup {K:PySem.W.Frag}{H:Hp}{a:Addr}{xs:List V}(h:H a=some (.tup xs))(hf:xs.all flatV=true):NotI K H (.ref a):=⟨"tuple",false,.seqT (.mk h),kit_tub,fun _=>kit_tui,.inl ⟨_,ownT (.mk h) hf⟩⟩
theorem noti_dK {K:PySem.W.Frag}{H:Hp}{a:Addr}{kvs:List (Key×V)}(h:H a=some (.dK kvs)):NotI K H (.ref a):=⟨"dict",false,.pl (.dK h),kit_db,fun _=>kit_di,.inr ⟨_,_,rfl,h⟩⟩
theorem own_lv {CX:CXT}{P:Program}{w:World}{K:PySem.W.Frag}{mg:Str→Option Value}{base:Heap}{N:List Str}{qual:Str}{scope:Scope}{f:Addr}{cd:Value}{A:Around}{outer:List Env}{s:Shared}{H:Hp}{E:XK}:
  PassesOwn (model (cxOf CX P w K mg base N qual scope f cd A outer s H E).prog (cxOf CX P w K mg base N qual scope f cd A outer s H E).w) (cxOf CX P w K mg base N qual scope f cd A outer s H E).A (cxOf CX P w K mg base N qual scope f cd A outer s H E).env (cxOf CX P w K mg base N qual scope f cd A outer s H E).xe:=PassesOwn.leaving
def L9:List Nat:=[97,98,99,100,101,102,103,104,105]
theorem datB {K:PySem.W.Frag}{H:Hp}{a c:Addr}{x y:Int}{vs:List V}(h1:SqT K H a [.int x,.int y,.ref c])(l1:SqL K H c vs)(hf:vs.all flatV=true):DatOk K H (.t [.f (.int x),.f (.int y),.l (vs.map DT.f)]) (.ref a):=by
 unfold DatOk
 refine⟨a,_,rfl,h1,?_⟩
 unfold DatsOk
 refine⟨_,_,rfl,by unfold DatOk;exact⟨rfl,rfl⟩,?_⟩
 unfold DatsOk
 refine⟨_,_,rfl,by unfold DatOk;exact⟨rfl,rfl⟩,?_⟩
 unfold DatsOk
 refine⟨_,_,rfl,datL l1 hf,?_⟩
 unfold DatsOk
 rfl
theorem eqB {K:PySem.W.Frag}{H:Hp}{Q:VK}{a b c d:Addr}{x y:Int}{vs:List V}(h1:SqT K H a [.int x,.int y,.ref c])(h2:SqT K H b [.int x,.int y,.ref d])(l1:SqL K H c vs)(l2:SqL K H d vs)(hf:vs.all flatV=true)(q:Q (.bl true) H):rEqD K false (.ref a) (.ref b) H Q:=by
 refine .inr ⟨_,_,datB h1 l1 hf,datB h2 l2 hf,fun z=>Bool.false_ne_true z.1,?_,?_⟩
 ·have e2:deps (vs.map DT.f)=0:=by rw[deps_flat]
  simp only[dep,deps,e2]
  decide
 ·have e1:=deqs_self hf
  have e:deq (.t [.f (.int x),.f (.int y),.l (vs.map DT.f)]) (.t [.f (.int x),.f (.int y),.l (vs.map DT.f)])=true:=by
   simp only[deq,deqs,e1,eqV_self (v:=V.int x) rfl,eqV_self (v:=V.int y) rfl]
   rfl
  rw[e]
  exact q
theorem room1 {l m:List Nat}{sp:List (List Nat)}{c:Nat}(M:MSp l m sp)(f0:sp[0]?=some (spotsAt l []))(hc:c∈m):∃v,RoomV l sp [c] v∧flatV v=true:=by
 by_cases h:Inf [c] l
 ·have e:spotsAt l [c]=behindL l (spotsAt l []) c:=spots_snoc l [] c
  have ne:behindL l (spotsAt l []) c≠[]:=by rw[←e];exact spots_ne.mpr h
  have hm:=M.clo 0 _ c f0 hc ne
  rw[←e]at hm
  obtain⟨j,hj⟩:=List.mem_iff_getElem?.mp hm
  exact⟨.int (j:Int),.inr ⟨h,j,hj,rfl⟩,rfl⟩
 ·exact⟨.non,.inl ⟨h,rfl⟩,rfl⟩
theorem isl_len {l m:List Nat}(h:l.length≠1):isl l m=false:=by
 unfold isl
 rw[decide_eq_false (by omega),Bool.and_false]
theorem isl_out {l m:List Nat}(h:isw l m 1=false):isl l m=false:=by
 unfold isl
 rw[h,Bool.false_and]
def sp_has_only (K:PySem.W.Frag)(a:Ad):Sp:=fun vs H Q _=>∃l m,vs=[tx l,tx m]∧l.length≤1000∧∀H2,Same H H2→Q (.bl (l.all fun c=>m.contains c)) H2
def sp_mixed (K:PySem.W.Frag)(a:Ad):Sp:=fun vs H Q _=>∃c k,vs=[.int c,.int k]∧∀r:Int,0≤r→Q (.int r) H
def sp_lcell (K:PySem.W.Frag)(a:Ad):Sp:=fun vs H Q _=>∃(b:Addr) (ns:List Int) (k:Int),vs=[.ref b,.int k]∧SqL K H b (ns.map V.int)∧0≤k∧∀r:Int,Q (.int r) H
def sp_first_spots (K:PySem.W.Frag)(a:Ad):Sp:=fun vs H Q _=>∃(l:List Nat),vs=[tx l]∧l.length≤40∧∀p H2,Same H H2→H p=none→H2 p=some (.tup ((firstS l).map fun (i:Nat)=>.int i))→Q (.ref p) H2
def sp_spots_behind (K:PySem.W.Frag)(a:Ad):Sp:=fun vs H Q _=>∃(l S:List Nat) (c:Nat) (t:Addr),vs=[tx l,.ref t,tx [c]]∧l.length≤40∧H t=some (.tup (S.map fun (i:Nat)=>.int i))∧S.length≤41∧∀p H2,Same H H2→H p=none→H2 p=some (.tup ((behindL l S c).map fun (i:Nat)=>.int i))→Q (.ref p) H2
def sp_rooms_of (K:PySem.W.Frag)(a:Ad):Sp:=fun vs H Q _=>∃(l m:List Nat),vs=[tx l,tx m]∧l.length≤40∧m.length≤4∧(∀c∈l,c∈m)∧∀(p:Addr) (sp:List (List Nat)) (ys:List V) (H2:Hp),Same H H2→H p=none→H2 p=some (.lst ys)→MachOk H2 l m sp ys→Q (.ref p) H2
def sp_Machine_rooms (K:PySem.W.Frag)(a:Ad):Sp:=fun vs H Q _=>∃(p:Addr) (l m:List Nat) (sp:List (List Nat)),vs=[.ref p]∧MachAt a.c_Machine H p l m sp∧Q (.int (sp.length:Nat)) H
def sp_Machine_led (K:PySem.W.Frag)(a:Ad):Sp:=fun vs H Q _=>∃(p:Addr) (l m:List Nat) (sp:List (List Nat)) (i:Nat) (s:List Nat) (c:Nat),vs=[.ref p,.int i,tx [c]]∧MachAt a.c_Machine H p l m sp∧sp[i]?=some s∧c∈m∧∀o,Way l sp s c o→Q (o.getD .non) H
def sp_Machine_ways (K:PySem.W.Frag)(a:Ad):Sp:=fun vs H Q _=>∃(p:Addr) (l m:List Nat) (sp:List (List Nat)),vs=[.ref p]∧MachAt a.c_Machine H p l m sp∧StripOk l m∧∀H2,Same H H2→Q (.int ((allW l).length:Nat)) H2
def sp_Machine_counts_behind (K:PySem.W.Frag)(a:Ad):Sp:=fun vs H Q _=>∃(p d:Addr) (l m:List Nat) (sp W:List (List Nat)) (js:List Nat) (k:Nat),vs=[.ref p,.ref d]∧MachAt a.c_Machine H p l m sp∧StripOk l m∧H d=some (.dK (CD l sp W js))∧CInv l sp W js∧WAll l k W∧∀q W2 js2 H2,Same H H2→H q=none→H2 q=some (.dK (CD l sp W2 js2))→CInv l sp W2 js2→WAll l (k+1) W2→Q (.ref q) H2
def sp_lkinds (K:PySem.W.Frag)(a:Ad):Sp:=fun vs H Q _=>∃c:Int,vs=[.int c]∧∀m:List Nat,isk m=true→1≤m.length→m.length≤4→Q (tx m) H
def sp_drawn (K:PySem.W.Frag)(a:Ad):Sp:=fun vs H Q _=>∃(c:Int) (d:Bool) (m:List Nat) (n:Int),vs=[.int c,.bl d,tx m,.int n]∧1≤m.length∧m.length≤4∧0≤n∧n≤60∧∀l:List Nat,l.length=n.toNat→(∀x∈l,x∈m)→Q (tx l) H
def sp_is_kinds (K:PySem.W.Frag)(a:Ad):Sp:=fun vs H Q _=>∃v,vs=[v]∧((∃l,v=tx l∧l.length≤1000∧∀H2,Same H H2→Q (.bl (isk l)) H2)∨(Oth K H v∧Q (.bl false) H))
def sp_is_word (K:PySem.W.Frag)(a:Ad):Sp:=fun vs H Q _=>∃v m most,vs=[v,tx m,.int most]∧((∃l,v=tx l∧l.length≤1000∧∀H2,Same H H2→Q (.bl (isw l m most)) H2)∨(Oth K H v∧Q (.bl false) H))
def sp_need_kinds (K:PySem.W.Frag)(a:Ad):Sp:=fun vs H Q E=>∃v,vs=[v]∧((∃l,v=tx l∧l.length≤1000∧isk l=true∧∀H2,Same H H2→Q .non H2)∨(BadK K H v∧XNk a E H))
def sp_need_word (K:PySem.W.Frag)(a:Ad):Sp:=fun vs H Q E=>∃v m most,vs=[v,tx m,.int most]∧((∃l,v=tx l∧l.length≤1000∧isw l m most=true∧∀H2,Same H H2→Q .non H2)∨(BadW K H v m most∧XNw a E H v))
def sp_is_letter (K:PySem.W.Frag)(a:Ad):Sp:=fun vs H Q _=>∃v m,vs=[v,tx m]∧((∃l,v=tx l∧l.length≤1000∧∀H2,Same H H2→Q (.bl (isl l m)) H2)∨(Oth K H v∧Q (.bl false) H))
def sp_need_letter (K:PySem.W.Frag)(a:Ad):Sp:=fun vs H Q E=>∃v m,vs=[v,tx m]∧((∃l,v=tx l∧l.length≤1000∧isl l m=true∧∀H2,Same H H2→Q .non H2)∨(BadL K H v m∧XNw a E H v))
def sp_is_within (K:PySem.W.Frag)(a:Ad):Sp:=fun vs H Q _=>∃(v:V) (y z:Int),vs=[v,.int y,.int z]∧((∃x:Int,v=.int x∧Q (.bl (decide (y≤x)&&decide (x≤z))) H)∨(NotI K H v∧Q (.bl false) H))
def sp_Machine_init (K:PySem.W.Frag)(a:Ad):Sp:=fun vs H Q E=>∃(p dx:Addr) (v u:V),vs=[.ref p,v,u]∧H p=some (.ins a.c_Machine dx [])∧((∃l m,v=tx l∧u=tx m∧StripOk l m∧∀sp H2,MachAt a.c_Machine H2 p l m sp→(∀b o,H b=some o→b≠p→H2 b=some o)→Q .non H2)∨(BadK K H u∧XNk a E H)∨(∃m,u=tx m∧KOk m∧BadW K H v m 40∧XNw a E H v))
def sp_Machine_need_room (K:PySem.W.Frag)(a:Ad):Sp:=fun vs H Q E=>∃(p:Addr) (l m:List Nat) (sp:List (List Nat)) (v:V),vs=[.ref p,v]∧MachAt a.c_Machine H p l m sp∧((∃i:Nat,v=.int i∧i<sp.length∧Q .non H)∨(BadR K H v sp.length∧XNr a E H v))
def sp_Machine_way (K:PySem.W.Frag)(a:Ad):Sp:=fun vs H Q E=>∃(p:Addr) (l m:List Nat) (sp:List (List Nat)) (v u:V),vs=[.ref p,v,u]∧MachAt a.c_Machine H p l m sp∧((BadR K H v sp.length∧XNr a E H v)∨(∃i:Nat,v=.int i∧i<sp.length∧BadL K H u m∧XNw a E H u))
def sp_Machine_room_of (K:PySem.W.Frag)(a:Ad):Sp:=fun vs H Q E=>∃(p:Addr) (l m:List Nat) (sp:List (List Nat)) (v:V),vs=[.ref p,v]∧MachAt a.c_Machine H p l m sp∧((∃w,v=tx w∧w.length≤60∧(∀c∈w,c∈m)∧∀v H2,Same H H2→RoomV l sp w v→Q v H2)∨(BadW K H v m 60∧XNw a E H v))
def sp_Machine_word_to (K:PySem.W.Frag)(a:Ad):Sp:=fun vs H Q E=>∃(p:Addr) (l m:List Nat) (sp:List (List Nat)) (v:V),vs=[.ref p,v]∧MachAt a.c_Machine H p l m sp∧BadR K H v sp.length∧XNr a E H v
def sp_Machine_parting (K:PySem.W.Frag)(a:Ad):Sp:=fun vs H Q E=>∃(p:Addr) (l m:List Nat) (sp:List (List Nat)) (v u:V),vs=[.ref p,v,u]∧MachAt a.c_Machine H p l m sp∧((BadR K H v sp.length∧XNr a E H v)∨(∃i:Nat,v=.int i∧i<sp.length∧BadR K H u sp.length∧XNr a E H u))
def sp_ltext (K:PySem.W.Frag)(a:Ad):Sp:=fun vs H Q _=>∃(c d:Int) (m:List Nat),vs=[.int c,.int d,tx m,.int 12]∧1≤m.length∧m.length≤4∧∀l:List Nat,l.length≤12→(∀x∈l,x∈m)→Q (tx l) H
def sp_badk (K:PySem.W.Frag)(a:Ad):Sp:=fun vs H Q _=>∃(n:Int),vs=[.int n]∧∀v H2,Same H H2→BadK K H2 v→Q v H2
def sp_badw (K:PySem.W.Frag)(a:Ad):Sp:=fun vs H Q _=>∃(n:Int) (m:List Nat) (most:Int),vs=[.int n,tx m,.int most]∧KOk m∧1≤most∧most≤100∧∀v H2,Same H H2→BadW K H2 v m most→Q v H2
def sp_badr (K:PySem.W.Frag)(a:Ad):Sp:=fun vs H Q _=>∃(n:Int) (N:Nat),vs=[.int n,.int N]∧0≤n∧N≤5000∧∀v H2,Same H H2→BadR K H2 v N→Q v H2
def sp_badl (K:PySem.W.Frag)(a:Ad):Sp:=fun vs H Q _=>∃(n:Int) (m:List Nat),vs=[.int n,tx m]∧KOk m∧∀v H2,Same H H2→BadL K H2 v m→Q v H2
def sp_told (K:PySem.W.Frag)(a:Ad):Sp:=fun vs H Q _=>∃(e:Addr),vs=[.ref e]∧((XAny H e a.c_NoKinds []∧∀t H2,Same H H2→H2 t=some (.tup [tx [107,105,110,100,115],.non])→Q (.ref t) H2)∨(∃v,XAny H e a.c_NoWord (fs1 "word" [v])∧∀t H2,Same H H2→H2 t=some (.tup [tx [119,111,114,100],v])→Q (.ref t) H2)∨(∃v,XAny H e a.c_NoRoom (fs1 "room" [v])∧∀t H2,Same H H2→H2 t=some (.tup [tx [114,111,111,109],v])→Q (.ref t) H2))
def sp_made (K:PySem.W.Frag)(a:Ad):Sp:=fun vs H Q _=>∃(v u:V),vs=[v,u]∧((BadK K H u∧∀t H2,Same H H2→H2 t=some (.tup [tx [107,105,110,100,115],.non])→Q (.ref t) H2)∨(∃m,u=tx m∧KOk m∧BadW K H v m 40∧∀t H2,Same H H2→H2 t=some (.tup [tx [119,111,114,100],v])→Q (.ref t) H2))
def sp_asked (K:PySem.W.Frag)(a:Ad):Sp:=fun vs H Q _=>∃(p:Addr) (l m:List Nat) (sp:List (List Nat)) (k:Int) (v u:V),vs=[.ref p,.int k,v,u]∧MachAt a.c_Machine H p l m sp∧(((k=0∨k=1∨k=2)∧BadR K H v sp.length∧∀t H2,Same H H2→H2 t=some (.tup [tx [114,111,111,109],v])→Q (.ref t) H2)∨(k=0∧∃i:Nat,v=.int i∧i<sp.length∧BadL K H u m∧∀t H2,Same H H2→H2 t=some (.tup [tx [119,111,114,100],u])→Q (.ref t) H2)∨(k=2∧∃i:Nat,v=.int i∧i<sp.length∧BadR K H u sp.length∧∀t H2,Same H H2→H2 t=some (.tup [tx [114,111,111,109],u])→Q (.ref t) H2)∨(k=3∧BadW K H v m 60∧∀t H2,Same H H2→H2 t=some (.tup [tx [119,111,114,100],v])→Q (.ref t) H2))
def sp_alike (K:PySem.W.Frag)(a:Ad):Sp:=fun vs H Q _=>∃(t:Addr) (w:List Nat) (v:V),vs=[.ref t,tx w,v]∧H t=some (.tup [tx w,v])∧Tame K H v∧Q (.bl true) H
def sp_right (K:PySem.W.Frag)(a:Ad):Sp:=fun vs H Q _=>∃(p:Addr) (l m:List Nat) (sp:List (List Nat)) (x y:Int),vs=[.ref p,tx m,.int x,.int y]∧MachAt a.c_Machine H p l m sp∧StripOk l m∧0≤y∧∀H2,Same H H2→Q (.bl true) H2
def spLaw (K:PySem.W.Frag):Sp:=fun vs H Q _=>∃(b:Addr) (ns:List Int),vs=[.ref b]∧SqL K H b (ns.map V.int)∧ns.length≤63∧∀H2,Q (.bl true) H2
section
variable {P:Program}{w:World}{K:PySem.W.Frag}{mg:Str→Option Value}{base:Heap}{a:Ad}
local macro_rules | `(tactic| walk_at "rd") => `(tactic| simp only [tSeq, tAsg, tPar, tOp, tUn, tVar, tC, gName, gNil, gCons, tRet, tRetN, tIfS, tTest, tB, tNot, tAnd, tOr, tAndV, tOrV, tNotV, tIf, tDrop, tNil, tCons, q_lst, q_tup, q_mk0, q_mkI, q_cat, tCall, tCB, tXFld, sXFld, tXInit, tBM, tBM0, tSl, tPart, tNoPart, tNext, L2.start, cxK, bxK, cxPr, cxWo, suxK, suxPr, suxWo, tRaise, tTry, tCallx, sSetx, sExprx, sIfx, hAs, hPlain, hNone, unE, tXFldR, tDisp, tPairs, q_for, q_comp, iRng1, iRng2, iList, iTup, iEnum, iText, gTup, pick, Option.bind_some, Option.bind_none, Option.join_some, Option.join_none, List.map_cons, List.map_nil, List.length_cons, List.length_nil, Nat.zero_add, Nat.reduceAdd, Nat.reduceSub, List.replicate_succ, List.replicate_zero, List.cons_append, List.nil_append, List.append_nil, List.getElem?_cons_zero, List.getElem?_cons_succ, List.set_cons_zero, List.set_cons_succ, q_I, q_I0, q_U, q_T, q_b, q_var, q_var', iZip, q_while, tMake, tMeth, tFld, sFld, sNo, tAug, tChain, sConsx, tMethx, tMakex, tDNewK, sDPut, tDIn, tDNotIn, tDUpd, rMaxD, sThaw, iDict, tDispT1, tDGet, tDGet1, ipI, tSumV, iVals, iItems, tThaw, tDGet2, tLst1x])
local macro_rules | `(tactic| walk_at "rd?") => `(tactic| (try walk_at "rd"))
local macro_rules | `(tactic| walk_at "ds") => `(tactic| dsimp only [tSeq, tAsg, tPar, tOp, tUn, tVar, tC, gName, gNil, gCons, tRet, tRetN, tIfS, tTest, tB, tNot, tAnd, tOr, tAndV, tOrV, tNotV, tIf, tDrop, tNil, tCons, q_lst, q_tup, q_mk0, q_mkI, q_cat, tCall, tCB, tXFld, sXFld, tXInit, tBM, tBM0, tSl, tPart, tNoPart, tNext, L2.start, cxK, bxK, cxPr, cxWo, suxK, suxPr, suxWo, tRaise, tTry, tCallx, sSetx, sExprx, sIfx, hAs, hPlain, hNone, unE, tXFldR, tDisp, tPairs, q_for, q_comp, iRng1, iRng2, iList, iTup, iEnum, iText, gTup, pick, Option.bind_some, Option.bind_none, Option.join_some, Option.join_none, List.map_cons, List.map_nil, List.length_cons, List.length_nil, Nat.zero_add, Nat.reduceAdd, Nat.reduceSub, List.replicate_succ, List.replicate_zero, List.cons_append, List.nil_append, List.append_nil, List.getElem?_cons_zero, List.getElem?_cons_succ, List.set_cons_zero, List.set_cons_succ, q_I, q_I0, q_U, q_T, q_b, q_var, q_var', iZip, q_while, tMake, tMeth, tFld, sFld, sNo, tAug, tChain, sConsx, tMethx, tMakex, tDNewK, sDPut, tDIn, tDNotIn, tDUpd, rMaxD, sThaw, iDict, tDispT1, tDGet, tDGet1, ipI, tSumV, iVals, iItems, tThaw, tDGet2, tLst1x])
theorem sc_has_only:FnScope ["text","letters"] ["text","letters"] (defScope s_has_only):=⟨rfl,rfl,rfl,by decide +kernel,rfl,by decide +kernel,by decide +kernel⟩
theorem ok_has_only (T:Txt K mg a):FnOk P w K mg base CX0 1 a.f_has_only a.d_has_only ["text","letters"] (sp_has_only K a):=by
 refine T.f_has_only.ok sc_has_only (fun vs H Q E h=>?_) (fun cdv A outer s H vs Q E hr h=>?_)
 ·obtain⟨_,_,rfl,_⟩:=h;rfl
 ·have hu64:=hr.units
  have hu1:=Nat.lt_of_le_of_lt (Nat.add_le_add_left (show 1≤64 by decide) _) hu64
  obtain⟨l,m,rfl,hl,q⟩:=h
  refine⟨_,(pss_one (ps_ret (pe_callB (call_allL rfl) rfl T.z_all bt_all (pa_cons (pe_comp (N:=["sign","letters"]) (ix:=[none,some 1]) rfl (cmpOk_ok rfl) rfl (pi_text (pv 0)) (fun _ _ _ _=>(pg_name (i:=0) (show (["sign","letters"]:List Str).Nodup from by decide +kernel) rfl (Or.inl rfl) (Or.inr rfl))) (fun _ _ _ _=>pifs_nil) (fun _ _ _ _=>(pe_cmpR op_in_sign (pv 0) (pv 1) rfl))) pa_nil)))),?_⟩
  walk_at "rd"
  refine⟨l,rfl,CompRun.text (fun _=>true) (fun i=>.bl (decide (l.getD i 0∈m))) hl ?_ ?_ ?_⟩
  ·intro i H1 Q1 hi s1 q1;exact q1 H1 (Same.refl _)
  ·intro i H1 Q1 hi _ s1 q1
   walk_at "rd"
   exact⟨_,m,rfl,rfl,q1 H1 (Same.refl _)⟩
  ·intro p H1 s1 n1 l1
   refine⟨p,(List.range l.length).map (fun i=>decide (l.getD i 0∈m)),rfl,?_,?_⟩
   ·rw[l1,filter_all,List.map_map];rfl
   ·rw[all_range];exact q H1 s1
theorem sc_NoWord_init:FnScope ["self","word"] ["self","word"] (defScope s_NoWord_init):=⟨rfl,rfl,rfl,by decide +kernel,rfl,by decide +kernel,by decide +kernel⟩
theorem ok_NoWord_init (T:Txt K mg a):FnOk P w K mg base CX0 1 a.g_NoWord_init a.e_NoWord_init ["self","word"] (spInit K a.c_NoWord 1 (fs1 "word")):=by
 refine T.fi_NoWord.ok sc_NoWord_init (fun vs H Q E h=>?_) (fun cdv A outer s H vs Q E hr h=>?_)
 ·obtain⟨e,r,rfl,hl,_⟩:=h;simp[hl]
 ·have hu64:=hr.units
  have hu1:=Nat.lt_of_le_of_lt (Nat.add_le_add_left (show 1≤64 by decide) _) hu64
  obtain⟨e,r,rfl,hl,he,q⟩:=h
  obtain⟨x,rfl⟩:∃x,r=[x]:=by match r,hl with | [x],_=>exact⟨x,rfl⟩
  refine⟨_,(pss_cons (ps_expr (pe_xinit rfl T.m_LackError T.r_LackError (pa_cons (pv 0) (pa_cons (pe_strT (l:=[116,104,105,115,32,105,115,32,110,111,32,119,111,114,100,32,111,102,32,116,104,101,115,101,32,107,105,110,100,115,44,32,111,114,32,104,97,115,32,116,111,111,32,109,97,110,121,32,108,101,116,116,101,114,115]) (by decide +kernel)) pa_nil))))
   (pss_one (ps_xfld (pv 0) (pv 1) rfl))),?_⟩
  walk_at "rd"
  refine⟨e,a.c_NoWord,none,_,rfl,he,T.x_NoWord,(by show 1≤1000;decide),e,a.c_NoWord,[],rfl,.bare he,T.x_NoWord.c,T.n_NoWord_word,(by show 0<1000;decide),fun H1 x1 k1 _=>?_⟩
  exact q H1 x1 fun b o hb hne=>k1 b o hb hne fun d hd=>by rw[he]at hd;exact absurd hd xo_ne
theorem sc_is_within:FnScope ["thing","least","most"] ["thing","least","most"] (defScope s_is_within):=⟨rfl,rfl,rfl,by decide +kernel,rfl,by decide +kernel,by decide +kernel⟩
theorem ok_is_within (T:Txt K mg a):FnOk P w K mg base CX0 1 a.f_is_within a.d_is_within ["thing","least","most"] (sp_is_within K a):=by
 refine T.f_is_within.ok sc_is_within (fun vs H Q E h=>?_) (fun cdv A outer s H vs Q E hr h=>?_)
 ·obtain⟨_,_,_,rfl,_⟩:=h;rfl
 ·have hu64:=hr.units
  have hu1:=Nat.lt_of_le_of_lt (Nat.add_le_add_left (show 1≤64 by decide) _) hu64
  obtain⟨v,y,z,rfl,q⟩:=h
  refine⟨_,(pss_cons (ps_if (PW.pt (pw_or (pt_val (pe_callB (call_isinstR (K:=K) rfl) rfl T.z_isinstance bt_isinstance (pa_cons (pv 0) (pa_cons (pe_bltn (v:=.ty "bool") rfl T.z_bool bt_bool rfl) pa_nil)))) (pw_or1 (pt_not (pt_val (pe_callB (call_isinstR (K:=K) rfl) rfl T.z_isinstance bt_isinstance (pa_cons (pv 0) (pa_cons (pe_bltn (v:=.ty "int") rfl T.z_int bt_int rfl) pa_nil)))))))) (pss_one (ps_ret pe_bl)) pss_nil)
   (pss_one (ps_ret (pe_and (pe_cmpR op_le (pv 1) (pv 0) (nomark _)) (pe_one (pe_cmpR op_le (pv 0) (pv 2) (nomark _))))))),?_⟩
  walk_at "rd"
  rcases q with⟨x,rfl,q⟩|⟨⟨T0,b,ty,kb,ki,_⟩,q⟩
  ·refine⟨_,_,_,_,false,rfl,rfl,.ty (.pl (.int _)),kit_ib,iteF ⟨_,_,_,_,true,rfl,rfl,.ty (.pl (.int _)),kit_ss,iteF ?_⟩⟩
   walk_at "rd?"
   refine ite2 (fun h=>?_) (fun h=>?_)
   ·rw[h,Bool.true_and]at q;exact q
   ·rw[Bool.eq_false_iff.mpr h,Bool.false_and]at q;exact q
  ·cases b with
   | true=>
    refine⟨_,_,_,_,true,rfl,rfl,.ty ty,kb,?_⟩
    rw[if_pos rfl,if_pos trivial]
    exact q
   | false=>exact⟨_,_,_,_,false,rfl,rfl,.ty ty,kb,iteF ⟨_,_,_,_,false,rfl,rfl,.ty ty,ki rfl,iteT q⟩⟩
theorem sc_first_spots:FnScope ["text"] ["text"] (defScope s_first_spots):=⟨rfl,rfl,rfl,by decide +kernel,rfl,by decide +kernel,by decide +kernel⟩
theorem ok_first_spots (T:Txt K mg a):FnOk P w K mg base CX0 1 a.f_first_spots a.d_first_spots ["text"] (sp_first_spots K a):=by
 refine T.f_first_spots.ok sc_first_spots (fun vs H Q E h=>?_) (fun cdv A outer s H vs Q E hr h=>?_)
 ·obtain⟨_,rfl,_⟩:=h;rfl
 ·have hu64:=hr.units
  have hu1:=Nat.lt_of_le_of_lt (Nat.add_le_add_left (show 1≤64 by decide) _) hu64
  obtain⟨l,rfl,hl,q⟩:=h
  refine⟨_,(pss_one (ps_ret (pe_callTy (call_tuple_ofK (K:=K) rfl) rfl T.z_tuple bt_tuple (pa_cons (pe_comp (N:=["spot","text"]) (ix:=[none,some 0]) rfl (cmpOk_ok rfl) rfl (pi_range1 rfl T.z_range (pa_cons (pe_op op_add (pe_callB (call_lenK (K:=K) rfl) rfl T.z_len bt_len (pa_cons (pv 0) pa_nil)) pe_int) pa_nil)) (fun _ _ _ _=>(pg_name (i:=0) (show (["spot","text"]:List Str).Nodup from by decide +kernel) rfl (Or.inl rfl) (Or.inr rfl))) (fun _ _ _ _=>(pifs_one (pt_cmpR (op_eqDK (K:=K) rfl hu64) (pe_bmK (K:=K) rfl PySem.F.plainAttrs_str PySem.F.slot_str_find PySem.F.type_str_find mt_findF (pv 1) (pa_cons (pe_slice sl_tx (pv 1) (po_some (pv 0)) po_none) pa_nil)) (pv 0) (nomark _)))) (fun _ _ _ _=>(pv 0))) pa_nil)))),?_⟩
  have sz:∀k:Nat,k≤1000→k≤sizeLine:=fun k h=>Nat.le_trans h (by rw[sizeLine_eq];decide)
  walk_at "rd"
  refine⟨_,_,rfl,lenTx (by omega),_,rfl,by omega,by omega,?_⟩
  have e0:((l.length:Int)+1).toNat=l.length+1:=by omega
  rw[e0]
  refine CompRun.range (fun i=>decide (∀j,j<i→¬AtW l (l.drop i) j)) (fun i=>.int ((i:Nat):Int)) (by omega) ?_ ?_ ?_
  ·intro i H1 Q1 hi s1 q1
   have e1:(0+(i:Int))=((i:Nat):Int):=by omega
   walk_at "rd"
   refine⟨rfl,_,rfl,l,rfl,sz _ (by omega),l,_,rfl,rfl,fun r hr=>.inl ⟨rfl,_,rfl,?_⟩⟩
   rw[e1,cut_from]at hr
   rw[if_neg Bool.false_ne_true,e1,find_first (by omega) hr]
   exact q1 H1 (Same.refl _)
  ·intro i H1 Q1 hi _ s1 q1
   have e1:(0+(i:Int))=((i:Nat):Int):=by omega
   walk_at "rd"
   rw[e1]
   exact q1 H1 (Same.refl _)
  ·intro p H1 s1 n1 l1
   exact⟨p,_,rfl,.inl ⟨.mk l1,fun p2 n2=>q p2 _ (s1.trans (same_upd n2)) (s1.free n2) upd_same⟩⟩
theorem sc_spots_behind:FnScope ["text","spots","letter"] ["text","spots","letter"] (defScope s_spots_behind):=⟨rfl,rfl,rfl,by decide +kernel,rfl,by decide +kernel,by decide +kernel⟩
theorem ok_spots_behind (T:Txt K mg a):FnOk P w K mg base CX0 1 a.f_spots_behind a.d_spots_behind ["text","spots","letter"] (sp_spots_behind K a):=by
 refine T.f_spots_behind.ok sc_spots_behind (fun vs H Q E h=>?_) (fun cdv A outer s H vs Q E hr h=>?_)
 ·obtain⟨_,_,_,_,rfl,_⟩:=h;rfl
 ·have hu64:=hr.units
  have hu1:=Nat.lt_of_le_of_lt (Nat.add_le_add_left (show 1≤64 by decide) _) hu64
  obtain⟨l,S,c,t,rfl,hl,ht,hS,q⟩:=h
  refine⟨_,(pss_one (ps_ret (pe_callTy (call_tuple_ofK (K:=K) rfl) rfl T.z_tuple bt_tuple (pa_cons (pe_comp (N:=["spot","letter","text"]) (ix:=[none,some 2,some 0]) rfl (cmpOk_ok rfl) rfl (pi_tupK (K:=K) rfl (pv 1)) (fun _ _ _ _=>(pg_name (i:=0) (show (["spot","letter","text"]:List Str).Nodup from by decide +kernel) rfl (Or.inl rfl) (Or.inr rfl))) (fun _ _ _ _=>(pifs_one (pt_cmpR (op_eqDK (K:=K) rfl hu64) (pe_slice sl_tx (pv 2) (po_some (pv 0)) (po_some (pe_op op_add (pv 0) pe_int))) (pv 1) (nomark _)))) (fun _ _ _ _=>(pe_op op_add (pv 0) pe_int))) pa_nil)))),?_⟩
  have sz:∀k:Nat,k≤1000→k≤sizeLine:=fun k h=>Nat.le_trans h (by rw[sizeLine_eq];decide)
  have gd:∀i,i<S.length→(S.map fun (i:Nat)=>V.int i).getD i .non=V.int ((S.getD i 0:Nat):Int):=fun i hi=>by
   rw[List.getD_eq_getElem?_getD,List.getElem?_map,List.getElem?_eq_getElem hi,List.getD_eq_getElem?_getD,List.getElem?_eq_getElem hi]
   rfl
  walk_at "rd"
  refine⟨t,rfl,⟨_,.mk ht⟩,CompRun.tup (xs:=S.map fun (i:Nat)=>V.int i) (fun i=>decide (l[S.getD i 0]?=some c)) (fun i=>.int ((S.getD i 0+1:Nat):Int)) (by rw[List.length_map];omega) (.mk ht) ?_ ?_ ?_⟩
  ·intro i H1 Q1 hi s1 q1
   rw[List.length_map]at hi
   rw[gd i hi]
   walk_at "rd"
   refine⟨_,rfl,_,rfl,l,rfl,sz _ (by omega),.inl ⟨rfl,_,rfl,?_⟩⟩
   rw[if_neg Bool.false_ne_true,cut1]
   exact q1 H1 (Same.refl _)
  ·intro i H1 Q1 hi _ s1 q1
   rw[List.length_map]at hi
   rw[gd i hi]
   walk_at "rd"
   exact q1 H1 (Same.refl _)
  ·intro p H1 s1 n1 l1
   rw[List.length_map,filt_map_range S (fun s=>decide (l[s]?=some c)) (· + 1)]at l1
   exact⟨p,_,rfl,.inl ⟨.mk l1,fun p2 n2=>q p2 _ (s1.trans (same_upd n2)) (s1.free n2) upd_same⟩⟩
theorem sc_lcell:FnScope ["_law_script","_law_k"] ["_law_script","_law_k"] (defScope s_lcell):=⟨rfl,rfl,rfl,by decide +kernel,rfl,by decide +kernel,by decide +kernel⟩
theorem ok_lcell (T:Txt K mg a):FnOk P w K mg base CX0 1 a.f_lcell a.d_lcell ["_law_script","_law_k"] (sp_lcell K a):=by
 refine T.f_lcell.ok sc_lcell (fun vs H Q E h=>?_) (fun cdv A outer s H vs Q E hr h=>?_)
 ·obtain⟨_,_,_,rfl,_⟩:=h;rfl
 ·have hu64:=hr.units
  have hu1:=Nat.lt_of_le_of_lt (Nat.add_le_add_left (show 1≤64 by decide) _) hu64
  obtain⟨b,ns,k,rfl,hS,hk,q⟩:=h
  refine⟨_,(pss_cons (ps_if (pt_cmpR op_lt (pv 1) (pe_callB (call_lenK (K:=K) rfl) rfl T.z_len bt_len (pa_cons (pv 0) pa_nil)) (nomark _)) (pss_one (ps_ret (pe_ix (ix_listK (K:=K) rfl) (pv 0) (pv 1) (fun _ _=>rfl)))) pss_nil)
   (pss_one (ps_ret pe_int))),?_⟩
  walk_at "rd"
  refine⟨_,_,rfl,.inl ⟨_,hS,rfl⟩,?_⟩
  rw[List.length_map]
  refine ite2 (fun h=>?_) (fun h=>?_)
  ·have h':k<ns.length:=of_decide_eq_true h
   exact⟨b,_,k,_,rfl,rfl,hS,atI_map hk h',q _⟩
  ·exact q _
theorem sc_mixed:FnScope ["_law_cell","_law_k","_law_number"] ["_law_cell","_law_k"] (defScope s_mixed):=⟨rfl,rfl,rfl,by decide +kernel,rfl,by decide +kernel,by decide +kernel⟩
theorem ok_mixed (T:Txt K mg a):FnOk P w K mg base CX0 1 a.f_mixed a.d_mixed ["_law_cell","_law_k"] (sp_mixed K a):=by
 refine T.f_mixed.ok sc_mixed (fun vs H Q E h=>?_) (fun cdv A outer s H vs Q E hr h=>?_)
 ·obtain⟨_,_,rfl,_⟩:=h;rfl
 ·have hu64:=hr.units
  have hu1:=Nat.lt_of_le_of_lt (Nat.add_le_add_left (show 1≤64 by decide) _) hu64
  obtain⟨c,k,rfl,q⟩:=h
  refine⟨_,(pss_cons (ps_set (i:=2) sc_mixed.nd rfl (Or.inl rfl) (pe_op op_mod (pe_op op_add (pe_op op_add (pe_op op_mul (pe_op op_mod (pv 0) pe_int) pe_int) (pe_op op_mul (pv 1) pe_int)) pe_int) pe_int))
   (pss_cons (ps_set (i:=2) sc_mixed.nd rfl (Or.inl rfl) (pe_op op_mod (pe_op op_add (pe_op op_add (pe_op op_mul (pe_op op_mod (pe_op op_mul (pv 2) (pv 2)) pe_int) pe_int) (pe_op op_mul (pv 1) pe_int)) pe_int) pe_int))
   (pss_one (ps_ret (pe_op op_mod (pe_op op_mul (pv 2) (pv 2)) pe_int))))),?_⟩
  walk_at "rd"
  exact⟨by decide,.inr ⟨by decide,by decide⟩,.inr ⟨by decide,by decide⟩,by decide,cm (by decide) (by decide),by decide,.inr ⟨by decide,by decide⟩,.inr ⟨by decide,by decide⟩,by decide,cm (by decide) (by decide),by decide,q _ (Int.emod_nonneg _ (by decide))⟩
theorem sc_badk:FnScope ["_law_x"] ["_law_x"] (defScope s_badk):=⟨rfl,rfl,rfl,by decide +kernel,rfl,by decide +kernel,by decide +kernel⟩
theorem ok_badk (T:Txt K mg a):FnOk P w K mg base CX0 1 a.f_badk a.d_badk ["_law_x"] (sp_badk K a):=by
 refine T.f_badk.ok sc_badk (fun vs H Q E h=>?_) (fun cdv A outer s H vs Q E hr h=>?_)
 ·obtain⟨_,rfl,_⟩:=h;rfl
 ·have hu64:=hr.units
  have hu1:=Nat.lt_of_le_of_lt (Nat.add_le_add_left (show 1≤64 by decide) _) hu64
  obtain⟨n,rfl,q⟩:=h
  obtain⟨es0_,ees0_⟩:∃es_,es_=getL ((defBody s_badk).getD 0 (.Pass ⟨0,0,0,0⟩)):=⟨_,rfl⟩
  have eb_:defBody s_badk=[putL es0_ ((defBody s_badk).getD 0 (.Pass ⟨0,0,0,0⟩))]:=by
   rw[ees0_]
   kernel_rfl
  rw[eb_]
  refine' ⟨_,(pss_one (ps_ret (pe_ix (ix_listK (K:=K) rfl) (pe_lstz ?disp0) (pe_op op_mod (pv 0) pe_int) (fun _ _=>rfl)))),?_⟩
  case disp0=>
   rw[ees0_]
   exact(paz_cons pe_non (paz_cons (pe_strT (l:=[]) (by decide +kernel)) (paz_cons (pe_strT (l:=[98,97]) (by decide +kernel)) (paz_cons (pe_strT (l:=[97,97]) (by decide +kernel)) (paz_cons (pe_strT (l:=[97,98,99,100,101]) (by decide +kernel)) (paz_cons (pe_strT (l:=[97,66]) (by decide +kernel)) (paz_cons (pe_strT (l:=[97,49]) (by decide +kernel)) (paz_cons pe_int (paz_cons pe_bl (paz_cons (pe_lst (pa_cons (pe_strT (l:=[97]) (by decide +kernel)) pa_nil)) (paz_cons (pe_tup (pa_cons (pe_strT (l:=[97]) (by decide +kernel)) (pa_cons (pe_strT (l:=[98]) (by decide +kernel)) pa_nil))) (paz_cons (pe_disp (pps_cons (pe_strT (l:=[97]) (by decide +kernel)) pe_int pps_nil) rfl rfl (by simp) (by decide)) (paz_cons (pe_strT (l:=[97,32,98]) (by decide +kernel)) paz_nil)))))))))))))
  have sz:∀k:Nat,k≤1000→k≤sizeLine:=fun k h=>Nat.le_trans h (by rw[sizeLine_eq];decide)
  walk_at "ds"
  refine⟨sz _ (by decide),NewL.of fun p1 H1 s1 n1 l1=>⟨sz _ (by decide),NewT.of fun p2 H2 s2 n2 l2=>fun p3 n3=>?_⟩⟩
  refine⟨upd_same,[(kTx [97],.int 1)],rfl,by show (1:Nat)≤15;decide,?_⟩
  have s3:Same H2 (upd (upd H2 p3 (.dK [])) p3 (.dK (mergeK [] [(kTx [97],.int 1)]))):=same_upd2 n3
  have h3:upd (upd H2 p3 (.dK [])) p3 (.dK (mergeK [] [(kTx [97],.int 1)])) p3=some (.dK (mergeK [] [(kTx [97],.int 1)])):=upd_same
  generalize upd (upd H2 p3 (.dK [])) p3 (.dK (mergeK [] [(kTx [97],.int 1)]))=H3 at s3 h3
  refine⟨sz _ (by decide),NewL.of fun p4 H4 s4 n4 l4=>?_⟩
  walk_at "rd?"
  refine⟨by decide,?_⟩
  obtain⟨v,hv,hm⟩:=atI_ok (xs:=[V.non,tx [],tx [98,97],tx [97,97],tx [97,98,99,100,101],tx [97,66],tx [97,49],V.int 5,V.bl true,V.ref p1,V.ref p2,V.ref p3,tx [97,32,98]]) (i:=n % 13) (by omega) (by show _<(13:Int);omega)
  refine⟨p4,_,_,v,rfl,rfl,.mk l4,hv,q v H4 (s1.trans (s2.trans (s3.trans s4))) ?_⟩
  simp only[List.mem_cons,List.not_mem_nil,or_false]at hm
  have tk:∀l:List Nat,l.length≤1000→isk l=false→BadK K H4 (tx l):=fun l a b=>.inl ⟨l,rfl,a,b⟩
  rcases hm with rfl | rfl | rfl | rfl | rfl | rfl | rfl | rfl | rfl | rfl | rfl | rfl | rfl
  ·exact .inr oth_non
  ·exact tk _ (by decide) (isk_f fun e=>by have:=(isk_pw e).1;simp at this)
  ·exact tk _ (by decide) (isk_f fun e=>by have:=(isk_pw e).2.2;simp at this)
  ·exact tk _ (by decide) (isk_f fun e=>by have:=(isk_pw e).2.2;simp at this)
  ·exact tk _ (by decide) (isk_f fun e=>by have:=(isk_pw e).2.1;simp at this)
  ·exact tk _ (by decide) (isk_no (c:=66) (by simp) (by omega))
  ·exact tk _ (by decide) (isk_no (c:=49) (by simp) (by omega))
  ·exact .inr oth_int
  ·exact .inr oth_bl
  ·exact .inr (oth_lst ((s2.trans (s3.trans s4)) _ _ l1) rfl)
  ·exact .inr (oth_tup ((s3.trans s4) _ _ l2) rfl)
  ·exact .inr (oth_dK (s4 _ _ h3))
  ·exact tk _ (by decide) (isk_no (c:=32) (by simp) (by omega))
theorem sc_badw:FnScope ["_law_x","_law_kinds_here","_law_most","_law_other","_law_some"] ["_law_x","_law_kinds_here","_law_most"] (defScope s_badw):=⟨rfl,rfl,rfl,by decide +kernel,rfl,by decide +kernel,by decide +kernel⟩
theorem ok_badw (T:Txt K mg a):FnOk P w K mg base CX0 1 a.f_badw a.d_badw ["_law_x","_law_kinds_here","_law_most"] (sp_badw K a):=by
 refine T.f_badw.ok sc_badw (fun vs H Q E h=>?_) (fun cdv A outer s H vs Q E hr h=>?_)
 ·obtain⟨_,_,_,rfl,_⟩:=h;rfl
 ·have hu64:=hr.units
  have hu1:=Nat.lt_of_le_of_lt (Nat.add_le_add_left (show 1≤64 by decide) _) hu64
  obtain⟨n,m,most,rfl,ok,h1,h100,q⟩:=h
  obtain⟨es0_,ees0_⟩:∃es_,es_=getL ((defBody s_badw).getD 1 (.Pass ⟨0,0,0,0⟩)):=⟨_,rfl⟩
  have eb_:defBody s_badw=[(defBody s_badw).getD 0 (.Pass ⟨0,0,0,0⟩),putL es0_ ((defBody s_badw).getD 1 (.Pass ⟨0,0,0,0⟩)),(defBody s_badw).getD 2 (.Pass ⟨0,0,0,0⟩)]:=by
   rw[ees0_]
   kernel_rfl
  rw[eb_]
  refine' ⟨_,(pss_cons (ps_set (i:=3) sc_badw.nd rfl (Or.inl rfl) (pe_ix (ix_listK (K:=K) rfl) (pe_comp (N:=["_law_letter","_law_kinds_here"]) (ix:=[none,some 1]) rfl (cmpOk_ok rfl) rfl (pi_text (pe_strT (l:=L9) (by decide +kernel))) (fun _ _ _ _=>(pg_name (i:=0) (show (["_law_letter","_law_kinds_here"]:List Str).Nodup from by decide +kernel) rfl (Or.inl rfl) (Or.inr rfl))) (fun _ _ _ _=>(pifs_one (pt_cmpR op_notin_sign (pv 0) (pv 1) rfl))) (fun _ _ _ _=>(pv 0))) pe_int (fun _ _=>rfl)))
   (pss_hold (pss_cons (ps_set (i:=4) sc_badw.nd rfl (Or.inl rfl) (pe_lstz ?disp0))
   (pss_hold (pss_one (ps_ret (pe_ix (ix_listK (K:=K) rfl) (pv 4) (pe_op op_mod (pv 0) pe_int) (fun _ _=>rfl)))))))),?_⟩
  case disp0=>
   rw[ees0_]
   exact(paz_cons pe_non (paz_cons pe_int (paz_cons pe_bl (paz_cons (pe_lst (pa_cons (pe_strT (l:=[97]) (by decide +kernel)) pa_nil)) (paz_cons (pe_tup pa_nil) (paz_cons pe_dnewK (paz_cons (pe_bm0 PySem.F.plainAttrs_str PySem.F.slot_str_upper PySem.F.type_str_upper mt_upperS (pe_ix ix_tx (pv 1) pe_int (fun _ _=>rfl))) (paz_cons (pv 3) (paz_cons (pe_op op_add_tx (pv 1) (pv 3)) (paz_cons (pe_strT (l:=[32]) (by decide +kernel)) (paz_cons (pe_op op_mul_tx (pe_ix ix_tx (pv 1) pe_int (fun _ _=>rfl)) (pe_op op_add (pv 2) pe_int)) (paz_cons (pe_strT (l:=[49]) (by decide +kernel)) paz_nil))))))))))))
  have m1:=ok.m1
  have m4:=ok.m4
  have sz:∀k:Nat,k≤1000→k≤sizeLine:=fun k h=>Nat.le_trans h (by rw[sizeLine_eq];decide)
  obtain⟨c0,hc,mc⟩:=first_ex m1
  have lc:=ok.lets c0 mc
  obtain⟨od,rest,hod,nod,aod⟩:=odd_ex (m:=m) (A:=L9) (by decide) (by show m.length<9;omega)
  walk_at "ds"
  refine⟨_,rfl,CompRun.text (l:=L9) (fun i=>!decide (L9.getD i 0∈m)) (fun i=>tx [L9.getD i 0]) (by decide) ?_ ?_ ?_⟩
  ·intro i H1 Q1 hi s1 q1
   walk_at "rd"
   exact⟨_,m,rfl,rfl,q1 H1 (Same.refl _)⟩
  ·intro i H1 Q1 hi _ s1 q1
   walk_at "rd"
   exact q1 H1 (Same.refl _)
  ·intro p0 H0 s0 n0 l0
   rw[hod]at l0
   have szm:m.length≤sizeLine:=sz _ (by omega)
   refine⟨p0,_,_,_,rfl,rfl,.mk l0,atI0,?_⟩
   walk_at "rd?"
   refine hold_of ?_
   walk_at "rd"
   have hr:repT [c0] (most+1)=List.replicate (most+1).toNat c0:=rep1 c0 (most+1)
   have lr:(repT [c0] (most+1)).length=(most+1).toNat:=by rw[hr,List.length_replicate]
   refine⟨sz _ (by decide),NewL.of fun p1 H1 s1 n1 l1=>⟨sz _ (by decide),NewT.of fun p2 H2 s2 n2 l2=>fun p3 n3=>?_⟩⟩
   have s3:Same H2 (upd H2 p3 (.dK [])):=same_upd n3
   have h3:upd H2 p3 (.dK []) p3=some (.dK []):=upd_same
   generalize upd H2 p3 (.dK [])=H3 at s3 h3
   refine⟨m,0,c0,rfl,rfl,szm,hc,rfl,[c0],rfl,trivial,by simp,fun c h=>by rw[List.mem_singleton.mp h];exact lc,sz _ (by omega),m,0,c0,rfl,rfl,szm,hc,[c0],most+1,rfl,rfl,by omega,by omega,by simp,sz _ (by decide),NewL.of fun p4 H4 s4 n4 l4=>?_⟩
   walk_at "rd?"
   refine hold_of ?_
   walk_at "rd"
   refine⟨by decide,?_⟩
   obtain⟨v,hv,hm⟩:=atI_ok (xs:=[V.non,V.int 7,V.bl true,V.ref p1,V.ref p2,V.ref p3,tx ([c0].map fun x=>x-32),tx [od],tx (m++[od]),tx [32],tx (repT [c0] (most+1)),tx [49]]) (i:=n % 12) (by omega) (by show _<(12:Int);omega)
   refine⟨p4,_,_,v,rfl,rfl,.mk l4,hv,q v H4 (s0.trans (s1.trans (s2.trans (s3.trans s4)))) ?_⟩
   have tk:∀l:List Nat,l.length≤1000→isw l m most=false→BadW K H4 (tx l) m most:=fun l a b=>.inl ⟨l,rfl,a,b⟩
   simp only[List.mem_cons,List.not_mem_nil,or_false]at hm
   rcases hm with rfl | rfl | rfl | rfl | rfl | rfl | rfl | rfl | rfl | rfl | rfl | rfl
   ·exact .inr oth_non
   ·exact .inr oth_int
   ·exact .inr oth_bl
   ·exact .inr (oth_lst ((s2.trans (s3.trans s4)) _ _ l1) rfl)
   ·exact .inr (oth_tup ((s3.trans s4) _ _ l2) rfl)
   ·exact .inr (oth_dK (s4 _ _ h3))
   ·exact tk _ (by simp) (isw_out (c:=c0-32) (by simp) (ok.out (by omega)))
   ·exact tk _ (by simp) (isw_out (c:=od) (by simp) nod)
   ·exact tk _ (by rw[List.length_append,List.length_singleton];omega) (isw_out (c:=od) (by simp) nod)
   ·exact tk _ (by simp) (isw_out (c:=32) (by simp) (ok.out (by omega)))
   ·exact tk _ (by rw[lr];omega) (isw_long (by rw[lr];omega))
   ·exact tk _ (by simp) (isw_out (c:=49) (by simp) (ok.out (by omega)))
theorem sc_badr:FnScope ["_law_x","_law_many"] ["_law_x","_law_many"] (defScope s_badr):=⟨rfl,rfl,rfl,by decide +kernel,rfl,by decide +kernel,by decide +kernel⟩
theorem ok_badr (T:Txt K mg a):FnOk P w K mg base CX0 1 a.f_badr a.d_badr ["_law_x","_law_many"] (sp_badr K a):=by
 refine T.f_badr.ok sc_badr (fun vs H Q E h=>?_) (fun cdv A outer s H vs Q E hr h=>?_)
 ·obtain⟨_,_,rfl,_⟩:=h;rfl
 ·have hu64:=hr.units
  have hu1:=Nat.lt_of_le_of_lt (Nat.add_le_add_left (show 1≤64 by decide) _) hu64
  obtain⟨n,N,rfl,hn,hN,q⟩:=h
  obtain⟨es0_,ees0_⟩:∃es_,es_=getL ((defBody s_badr).getD 0 (.Pass ⟨0,0,0,0⟩)):=⟨_,rfl⟩
  have eb_:defBody s_badr=[putL es0_ ((defBody s_badr).getD 0 (.Pass ⟨0,0,0,0⟩))]:=by
   rw[ees0_]
   kernel_rfl
  rw[eb_]
  refine' ⟨_,(pss_one (ps_ret (pe_ix (ix_listK (K:=K) rfl) (pe_lstz ?disp0) (pe_op op_mod (pv 0) pe_int) (fun _ _=>rfl)))),?_⟩
  case disp0=>
   rw[ees0_]
   exact(paz_cons pe_non (paz_cons (pe_un un_neg pe_int) (paz_cons (pv 1) (paz_cons (pe_op op_add (pv 1) (pe_op op_fdiv (pv 0) pe_int)) (paz_cons pe_bl (paz_cons pe_bl (paz_cons (pe_strT (l:=[48]) (by decide +kernel)) (paz_cons (pe_lst (pa_cons pe_int pa_nil)) (paz_cons (pe_tup (pa_cons pe_int pa_nil)) (paz_cons pe_dnewK (paz_cons (pe_op op_pow pe_int pe_int) (paz_cons (pe_un un_neg pe_int) paz_nil))))))))))))
  have sz:∀k:Nat,k≤1000→k≤sizeLine:=fun k h=>Nat.le_trans h (by rw[sizeLine_eq];decide)
  walk_at "rd"
  refine⟨⟨by decide,by decide⟩,sz _ (by decide),NewL.of fun p1 H1 s1 n1 l1=>⟨sz _ (by decide),NewT.of fun p2 H2 s2 n2 l2=>fun p3 n3=>?_⟩⟩
  have s3:Same H2 (upd H2 p3 (.dK [])):=same_upd n3
  have h3:upd H2 p3 (.dK []) p3=some (.dK []):=upd_same
  generalize upd H2 p3 (.dK [])=H3 at s3 h3
  obtain⟨big,eb⟩:∃b:Int,b=10 ^ Int.toNat 30:=⟨_,rfl⟩
  have hb:5000≤big:=by rw[eb];decide
  rw[←eb]
  refine⟨⟨by decide,by decide,by decide⟩,sz _ (by decide),NewL.of fun p4 H4 s4 n4 l4=>⟨by decide,?_⟩⟩
  obtain⟨v,hv,hm⟩:=atI_ok (xs:=[V.non,V.int (-1),V.int (N:Int),V.int ((N:Int)+n/16),V.bl true,V.bl false,tx [48],V.ref p1,V.ref p2,V.ref p3,V.int big,V.int (-5)]) (i:=n % 12) (by omega) (by show _<(12:Int);omega)
  refine⟨p4,_,_,v,rfl,rfl,.mk l4,hv,q v H4 (s1.trans (s2.trans (s3.trans s4))) ?_⟩
  simp only[List.mem_cons,List.not_mem_nil,or_false]at hm
  have tk:∀i:Int,(i<0∨(N:Int)≤i)→BadR K H4 (.int i) N:=fun i a=>.inl ⟨i,rfl,a⟩
  rcases hm with rfl | rfl | rfl | rfl | rfl | rfl | rfl | rfl | rfl | rfl | rfl | rfl
  ·exact .inr noti_non
  ·exact tk _ (by omega)
  ·exact tk _ (by omega)
  ·exact tk _ (by omega)
  ·exact .inr noti_bl
  ·exact .inr noti_bl
  ·exact .inr noti_tx
  ·exact .inr (noti_lst ((s2.trans (s3.trans s4)) _ _ l1) rfl)
  ·exact .inr (noti_tup ((s3.trans s4) _ _ l2) rfl)
  ·exact .inr (noti_dK (s4 _ _ h3))
  ·exact tk _ (by omega)
  ·exact tk _ (by omega)
theorem sc_badl:FnScope ["_law_x","_law_kinds_here","_law_other","_law_some"] ["_law_x","_law_kinds_here"] (defScope s_badl):=⟨rfl,rfl,rfl,by decide +kernel,rfl,by decide +kernel,by decide +kernel⟩
theorem ok_badl (T:Txt K mg a):FnOk P w K mg base CX0 1 a.f_badl a.d_badl ["_law_x","_law_kinds_here"] (sp_badl K a):=by
 refine T.f_badl.ok sc_badl (fun vs H Q E h=>?_) (fun cdv A outer s H vs Q E hr h=>?_)
 ·obtain⟨_,_,rfl,_⟩:=h;rfl
 ·have hu64:=hr.units
  have hu1:=Nat.lt_of_le_of_lt (Nat.add_le_add_left (show 1≤64 by decide) _) hu64
  obtain⟨n,m,rfl,ok,q⟩:=h
  obtain⟨es0_,ees0_⟩:∃es_,es_=getL ((defBody s_badl).getD 1 (.Pass ⟨0,0,0,0⟩)):=⟨_,rfl⟩
  have eb_:defBody s_badl=[(defBody s_badl).getD 0 (.Pass ⟨0,0,0,0⟩),putL es0_ ((defBody s_badl).getD 1 (.Pass ⟨0,0,0,0⟩)),(defBody s_badl).getD 2 (.Pass ⟨0,0,0,0⟩)]:=by
   rw[ees0_]
   kernel_rfl
  rw[eb_]
  refine' ⟨_,(pss_cons (ps_set (i:=2) sc_badl.nd rfl (Or.inl rfl) (pe_ix (ix_listK (K:=K) rfl) (pe_comp (N:=["_law_letter","_law_kinds_here"]) (ix:=[none,some 1]) rfl (cmpOk_ok rfl) rfl (pi_text (pe_strT (l:=L9) (by decide +kernel))) (fun _ _ _ _=>(pg_name (i:=0) (show (["_law_letter","_law_kinds_here"]:List Str).Nodup from by decide +kernel) rfl (Or.inl rfl) (Or.inr rfl))) (fun _ _ _ _=>(pifs_one (pt_cmpR op_notin_sign (pv 0) (pv 1) rfl))) (fun _ _ _ _=>(pv 0))) pe_int (fun _ _=>rfl)))
   (pss_hold (pss_cons (ps_set (i:=3) sc_badl.nd rfl (Or.inl rfl) (pe_lstz ?disp0))
   (pss_hold (pss_one (ps_ret (pe_ix (ix_listK (K:=K) rfl) (pe_op op_cat (pv 3) (pe_lst (pa_cons (pe_slice sl_tx (pe_op op_add_tx (pv 1) (pe_ix ix_tx (pv 1) pe_int (fun _ _=>rfl))) po_none (po_some pe_int)) (pa_cons (pe_op op_add_tx (pv 1) (pv 1)) pa_nil)))) (pe_op op_mod (pv 0) pe_int) (fun _ _=>rfl)))))))),?_⟩
  case disp0=>
   rw[ees0_]
   exact(paz_cons (pe_strT (l:=[]) (by decide +kernel)) (paz_cons (pv 2) (paz_cons (pe_op op_mul_tx (pe_ix ix_tx (pv 1) pe_int (fun _ _=>rfl)) pe_int) (paz_cons pe_non (paz_cons pe_int (paz_cons pe_bl (paz_cons (pe_lst (pa_cons (pe_ix ix_tx (pv 1) pe_int (fun _ _=>rfl)) pa_nil)) (paz_cons (pe_bm0 PySem.F.plainAttrs_str PySem.F.slot_str_upper PySem.F.type_str_upper mt_upperS (pe_ix ix_tx (pv 1) pe_int (fun _ _=>rfl))) (paz_cons (pe_tup pa_nil) (paz_cons pe_dnewK (paz_cons (pe_strT (l:=[32]) (by decide +kernel)) (paz_cons (pe_op op_add_tx (pe_ix ix_tx (pv 1) pe_int (fun _ _=>rfl)) (pe_strT (l:=[32]) (by decide +kernel))) paz_nil))))))))))))
  have m1:=ok.m1
  have m4:=ok.m4
  have sz:∀k:Nat,k≤1000→k≤sizeLine:=fun k h=>Nat.le_trans h (by rw[sizeLine_eq];decide)
  obtain⟨c0,hc,mc⟩:=first_ex m1
  have lc:=ok.lets c0 mc
  obtain⟨od,rest,hod,nod,aod⟩:=odd_ex (m:=m) (A:=L9) (by decide) (by show m.length<9;omega)
  walk_at "rd"
  refine⟨_,rfl,CompRun.text (l:=L9) (fun i=>!decide (L9.getD i 0∈m)) (fun i=>tx [L9.getD i 0]) (by decide) ?_ ?_ ?_⟩
  ·intro i H1 Q1 hi s1 q1
   walk_at "rd"
   exact⟨_,m,rfl,rfl,q1 H1 (Same.refl _)⟩
  ·intro i H1 Q1 hi _ s1 q1
   walk_at "rd"
   exact q1 H1 (Same.refl _)
  ·intro p0 H0 s0 n0 l0
   rw[hod]at l0
   have szm:m.length≤sizeLine:=sz _ (by omega)
   refine⟨p0,_,_,_,rfl,rfl,.mk l0,atI0,?_⟩
   walk_at "rd?"
   refine hold_of ?_
   walk_at "rd"
   have hr:repT [c0] 2=[c0,c0]:=rep1 c0 2
   refine⟨m,0,c0,rfl,rfl,szm,hc,[c0],2,rfl,rfl,by decide,by decide,by simp,m,0,c0,rfl,rfl,szm,hc,sz _ (by decide),NewL.of fun p1 H1 s1 n1 l1=>⟨m,0,c0,rfl,rfl,szm,hc,rfl,[c0],rfl,trivial,by simp,fun c h=>by rw[List.mem_singleton.mp h];exact lc,sz _ (by decide),NewT.of fun p2 H2 s2 n2 l2=>fun p3 n3=>?_⟩⟩
   have s3:Same H2 (upd H2 p3 (.dK [])):=same_upd n3
   have h3:upd H2 p3 (.dK []) p3=some (.dK []):=upd_same
   generalize upd H2 p3 (.dK [])=H3 at s3 h3
   refine⟨m,0,c0,rfl,rfl,szm,hc,sz _ (by decide),sz _ (by decide),NewL.of fun p4 H4 s4 n4 l4=>?_⟩
   walk_at "rd?"
   refine hold_of ?_
   walk_at "rd"
   have e2:(cut (m++[c0]) none (some 2)).length=2:=by rw[cutTo _ (by decide),List.length_take,List.length_append,List.length_singleton];show min 2 _=2;omega
   refine⟨m,0,c0,rfl,rfl,szm,hc,sz _ (by omega),_,rfl,m++[c0],rfl,sz _ (by rw[List.length_append,List.length_singleton];omega),sz _ (by omega),sz _ (by decide),NewL.of fun p5 H5 s5 n5 l5=>?_⟩
   refine cat_of (s5 _ _ l4) l5 (sz _ (by show (14:Nat)≤1000;decide)) fun p9 H9 s9 n9 l9=>⟨by decide,?_⟩
   obtain⟨v,hv,hm⟩:=atI_ok (xs:=[tx [],tx [od],tx (repT [c0] 2),V.non,V.int 0,V.bl true,V.ref p1,tx ([c0].map fun x=>x-32),V.ref p2,V.ref p3,tx [32],tx [c0,32]]++[tx (cut (m++[c0]) none (some 2)),tx (m++m)]) (i:=n % 14) (by omega) (by show _<(14:Int);omega)
   refine⟨p9,_,_,v,rfl,rfl,.mk l9,hv,q v H9 (s0.trans (s1.trans (s2.trans (s3.trans (s4.trans (s5.trans s9)))))) ?_⟩
   have tk:∀l:List Nat,l.length≤1000→isl l m=false→BadL K H9 (tx l) m:=fun l a b=>.inl ⟨l,rfl,a,b⟩
   simp only[List.cons_append,List.nil_append,List.mem_cons,List.not_mem_nil,or_false]at hm
   rcases hm with rfl | rfl | rfl | rfl | rfl | rfl | rfl | rfl | rfl | rfl | rfl | rfl | rfl | rfl
   ·exact tk _ (by simp) (isl_len (by simp))
   ·exact tk _ (by simp) (isl_out (isw_out (c:=od) (by simp) nod))
   ·rw[hr];exact tk _ (by simp) (isl_len (by simp))
   ·exact .inr oth_non
   ·exact .inr oth_int
   ·exact .inr oth_bl
   ·exact .inr (oth_lst ((s2.trans (s3.trans (s4.trans (s5.trans s9)))) _ _ l1) rfl)
   ·exact tk _ (by simp) (isl_out (isw_out (c:=c0-32) (by simp) (ok.out (by omega))))
   ·exact .inr (oth_tup ((s3.trans (s4.trans (s5.trans s9))) _ _ l2) rfl)
   ·exact .inr (oth_dK ((s4.trans (s5.trans s9)) _ _ h3))
   ·exact tk _ (by simp) (isl_out (isw_out (c:=32) (by simp) (ok.out (by omega))))
   ·exact tk _ (by simp) (isl_len (by simp))
   ·exact tk _ (by rw[e2];decide) (isl_len (by rw[e2];decide))
   ·exact tk _ (by rw[List.length_append];omega) (isl_len (by rw[List.length_append];omega))
theorem sc_told:FnScope ["_law_error","_law_found"] ["_law_error"] (defScope s_told):=⟨rfl,rfl,rfl,by decide +kernel,rfl,by decide +kernel,by decide +kernel⟩
theorem ok_told (T:Txt K mg a):FnOk P w K mg base CX0 1 a.f_told a.d_told ["_law_error"] (sp_told K a):=by
 refine T.f_told.ok sc_told (fun vs H Q E h=>?_) (fun cdv A outer s H vs Q E hr h=>?_)
 ·obtain⟨_,rfl,_⟩:=h;rfl
 ·have hu64:=hr.units
  have hu1:=Nat.lt_of_le_of_lt (Nat.add_le_add_left (show 1≤64 by decide) _) hu64
  obtain⟨e,rfl,q⟩:=h
  refine⟨_,(pss_cons (ps_if (pt_cmpR op_isN (pv 0) pe_non (nomark _)) (pss_one (ps_ret (pe_tup (pa_cons (pe_strT (l:=[110,111,116,104,105,110,103]) (by decide +kernel)) (pa_cons pe_non pa_nil))))) pss_nil)
   (pss_hold (pss_cons (ps_set (i:=1) sc_told.nd rfl (Or.inl rfl) (pe_lst pa_nil))
   (pss_hold (pss_cons (ps_if (pt_val (pe_callB (call_isinstR (K:=K) rfl) rfl T.z_isinstance bt_isinstance (pa_cons (pv 0) (pa_cons (pe_glob (v:=.ref a.c_NoKinds) rfl T.m_NoKinds rfl) pa_nil)))) (pss_one (ps_expr (pe_bm PySem.F.plainAttrs_list PySem.F.slot_list_append PySem.F.type_list_append mt_append (pv 1) (pa_cons (pe_tup (pa_cons (pe_strT (l:=[107,105,110,100,115]) (by decide +kernel)) (pa_cons pe_non pa_nil))) pa_nil)))) pss_nil)
   (pss_hold (pss_cons (ps_if (pt_val (pe_callB (call_isinstR (K:=K) rfl) rfl T.z_isinstance bt_isinstance (pa_cons (pv 0) (pa_cons (pe_glob (v:=.ref a.c_NoWord) rfl T.m_NoWord rfl) pa_nil)))) (pss_one (ps_expr (pe_bm PySem.F.plainAttrs_list PySem.F.slot_list_append PySem.F.type_list_append mt_append (pv 1) (pa_cons (pe_tup (pa_cons (pe_strT (l:=[119,111,114,100]) (by decide +kernel)) (pa_cons (pe_xfldR (K:=K) rfl (pv 0) rfl) pa_nil))) pa_nil)))) pss_nil)
   (pss_hold (pss_cons (ps_if (pt_val (pe_callB (call_isinstR (K:=K) rfl) rfl T.z_isinstance bt_isinstance (pa_cons (pv 0) (pa_cons (pe_glob (v:=.ref a.c_NoRoom) rfl T.m_NoRoom rfl) pa_nil)))) (pss_one (ps_expr (pe_bm PySem.F.plainAttrs_list PySem.F.slot_list_append PySem.F.type_list_append mt_append (pv 1) (pa_cons (pe_tup (pa_cons (pe_strT (l:=[114,111,111,109]) (by decide +kernel)) (pa_cons (pe_xfldR (K:=K) rfl (pv 0) rfl) pa_nil))) pa_nil)))) pss_nil)
   (pss_hold (pss_cons (ps_if (pt_cmpR (op_neDK (K:=K) rfl hu64) (pe_callB (call_lenK (K:=K) rfl) rfl T.z_len bt_len (pa_cons (pv 1) pa_nil)) pe_int (nomark _)) (pss_one (ps_ret (pe_tup (pa_cons (pe_strT (l:=[115,101,118,101,114,97,108]) (by decide +kernel)) (pa_cons pe_non pa_nil))))) pss_nil)
   (pss_one (ps_ret (pe_ix (ix_listK (K:=K) rfl) (pv 1) pe_int (fun _ _=>rfl))))))))))))))),?_⟩
  have sz:∀k:Nat,k≤1000→k≤sizeLine:=fun k h=>Nat.le_trans h (by rw[sizeLine_eq];decide)
  have nd:=T.nd
  simp only[List.nodup_cons,List.mem_cons,List.not_mem_nil,or_false,not_or]at nd
  obtain⟨⟨a1,a2,a3⟩,⟨a4,a5⟩,a6,_⟩:=nd
  walk_at "rd"
  rw[decide_eq_false (fun z=>by cases z)]
  refine⟨trivial,iteF (hold_of ?_)⟩
  walk_at "rd"
  refine⟨Nat.zero_le _,NewL.of fun pf H1 s1 n1 l1=>?_⟩
  have lt1:([]:List V).length<sizeLine:=Nat.lt_of_lt_of_le (show 0<1000 by decide) (sz 1000 (Nat.le_refl _))
  walk_at "rd?"
  refine hold_of ?_
  walk_at "rd"
  rcases q with⟨x,q⟩|⟨v,x,q⟩|⟨v,x,q⟩
  ·refine⟨_,_,_,_,true,rfl,rfl,.exc (x.same (s1)) T.xi_NoKinds,kit_ref T.k_NoKinds T.k_NoKinds (by simp[List.contains_cons]) (fun _=>rfl),iteT ⟨.inl ⟨rfl,_,.mk l1⟩,?_⟩⟩
   refine⟨sz _ (by decide),NewT.of fun pt H2 s2 n2 l2=>?_⟩
   have np:pt≠pf:=fun z=>by rw[z,l1]at n2;cases n2
   have s3:Same H (upd H2 pf (.lst [.ref pt])):=same_upd3 (s1.trans s2) n1
   have l3:upd H2 pf (.lst [.ref pt]) pf=some (.lst [.ref pt]):=upd_same
   have t3:upd H2 pf (.lst [.ref pt]) pt=some (.tup [tx [107,105,110,100,115],V.non]):=by rw[upd_ne np];exact l2
   refine⟨pf,[],_,rfl,rfl,s2 _ _ l1,lt1,?_⟩
   show tHold _ _ _ (upd H2 pf (.lst [.ref pt]))
   generalize upd H2 pf (.lst [.ref pt])=H3 at s3 l3 t3
   refine hold_of ?_
   walk_at "rd"
   refine⟨_,_,_,_,false,rfl,rfl,.exc (x.same (s3)) T.xi_NoKinds,kit_ref T.k_NoKinds T.k_NoWord (by simp[List.contains_cons,a1,a2,a3,a4,a5,a6,Ne.symm a1,Ne.symm a2,Ne.symm a3,Ne.symm a4,Ne.symm a5,Ne.symm a6]) (fun z=>by simp_all),iteF (hold_of ?_)⟩
   walk_at "rd"
   refine⟨_,_,_,_,false,rfl,rfl,.exc (x.same (s3)) T.xi_NoKinds,kit_ref T.k_NoKinds T.k_NoRoom (by simp[List.contains_cons,a1,a2,a3,a4,a5,a6,Ne.symm a1,Ne.symm a2,Ne.symm a3,Ne.symm a4,Ne.symm a5,Ne.symm a6]) (fun z=>by simp_all),iteF (hold_of ?_)⟩
   walk_at "rd"
   refine⟨_,_,rfl,.inl ⟨_,.mk l3,rfl⟩,neV_same (.inr ⟨_,rfl⟩) ⟨false,rfl,iteF ?_⟩⟩
   walk_at "rd?"
   exact⟨pf,_,_,_,rfl,rfl,.mk l3,rfl,q pt H3 s3 t3⟩
  ·refine⟨_,_,_,_,false,rfl,rfl,.exc (x.same (s1)) T.xi_NoWord,kit_ref T.k_NoWord T.k_NoKinds (by simp[List.contains_cons,a1,a2,a3,a4,a5,a6,Ne.symm a1,Ne.symm a2,Ne.symm a3,Ne.symm a4,Ne.symm a5,Ne.symm a6]) (fun z=>by simp_all),iteF (hold_of ?_)⟩
   walk_at "rd"
   refine⟨_,_,_,_,true,rfl,rfl,.exc (x.same (s1)) T.xi_NoWord,kit_ref T.k_NoWord T.k_NoWord (by simp[List.contains_cons]) (fun _=>rfl),iteT ⟨.inl ⟨rfl,_,.mk l1⟩,?_⟩⟩
   refine⟨e,_,_,_,rfl,x.same s1,T.x_NoWord.c,T.n_NoWord_word,fs1_get,sz _ (by decide),NewT.of fun pt H2 s2 n2 l2=>?_⟩
   have np:pt≠pf:=fun z=>by rw[z,l1]at n2;cases n2
   have s3:Same H (upd H2 pf (.lst [.ref pt])):=same_upd3 (s1.trans s2) n1
   have l3:upd H2 pf (.lst [.ref pt]) pf=some (.lst [.ref pt]):=upd_same
   have t3:upd H2 pf (.lst [.ref pt]) pt=some (.tup [tx [119,111,114,100],v]):=by rw[upd_ne np];exact l2
   refine⟨pf,[],_,rfl,rfl,s2 _ _ l1,lt1,?_⟩
   show tHold _ _ _ (upd H2 pf (.lst [.ref pt]))
   generalize upd H2 pf (.lst [.ref pt])=H3 at s3 l3 t3
   refine hold_of ?_
   walk_at "rd"
   refine⟨_,_,_,_,false,rfl,rfl,.exc (x.same (s3)) T.xi_NoWord,kit_ref T.k_NoWord T.k_NoRoom (by simp[List.contains_cons,a1,a2,a3,a4,a5,a6,Ne.symm a1,Ne.symm a2,Ne.symm a3,Ne.symm a4,Ne.symm a5,Ne.symm a6]) (fun z=>by simp_all),iteF (hold_of ?_)⟩
   walk_at "rd"
   refine⟨_,_,rfl,.inl ⟨_,.mk l3,rfl⟩,neV_same (.inr ⟨_,rfl⟩) ⟨false,rfl,iteF ?_⟩⟩
   walk_at "rd?"
   exact⟨pf,_,_,_,rfl,rfl,.mk l3,rfl,q pt H3 s3 t3⟩
  ·refine⟨_,_,_,_,false,rfl,rfl,.exc (x.same (s1)) T.xi_NoRoom,kit_ref T.k_NoRoom T.k_NoKinds (by simp[List.contains_cons,a1,a2,a3,a4,a5,a6,Ne.symm a1,Ne.symm a2,Ne.symm a3,Ne.symm a4,Ne.symm a5,Ne.symm a6]) (fun z=>by simp_all),iteF (hold_of ?_)⟩
   walk_at "rd"
   refine⟨_,_,_,_,false,rfl,rfl,.exc (x.same (s1)) T.xi_NoRoom,kit_ref T.k_NoRoom T.k_NoWord (by simp[List.contains_cons,a1,a2,a3,a4,a5,a6,Ne.symm a1,Ne.symm a2,Ne.symm a3,Ne.symm a4,Ne.symm a5,Ne.symm a6]) (fun z=>by simp_all),iteF (hold_of ?_)⟩
   walk_at "rd"
   refine⟨_,_,_,_,true,rfl,rfl,.exc (x.same (s1)) T.xi_NoRoom,kit_ref T.k_NoRoom T.k_NoRoom (by simp[List.contains_cons]) (fun _=>rfl),iteT ⟨.inl ⟨rfl,_,.mk l1⟩,?_⟩⟩
   refine⟨e,_,_,_,rfl,x.same s1,T.x_NoRoom.c,T.n_NoRoom_room,fs1_get,sz _ (by decide),NewT.of fun pt H2 s2 n2 l2=>?_⟩
   have np:pt≠pf:=fun z=>by rw[z,l1]at n2;cases n2
   have s3:Same H (upd H2 pf (.lst [.ref pt])):=same_upd3 (s1.trans s2) n1
   have l3:upd H2 pf (.lst [.ref pt]) pf=some (.lst [.ref pt]):=upd_same
   have t3:upd H2 pf (.lst [.ref pt]) pt=some (.tup [tx [114,111,111,109],v]):=by rw[upd_ne np];exact l2
   refine⟨pf,[],_,rfl,rfl,s2 _ _ l1,lt1,?_⟩
   show tHold _ _ _ (upd H2 pf (.lst [.ref pt]))
   generalize upd H2 pf (.lst [.ref pt])=H3 at s3 l3 t3
   refine hold_of ?_
   walk_at "rd"
   refine⟨_,_,rfl,.inl ⟨_,.mk l3,rfl⟩,neV_same (.inr ⟨_,rfl⟩) ⟨false,rfl,iteF ?_⟩⟩
   walk_at "rd?"
   exact⟨pf,_,_,_,rfl,rfl,.mk l3,rfl,q pt H3 s3 t3⟩
theorem sc_Machine_led:FnScope ["self","room","letter"] ["self","room","letter"] (defScope s_Machine_led):=⟨rfl,rfl,rfl,by decide +kernel,rfl,by decide +kernel,by decide +kernel⟩
theorem ok_Machine_led (T:Txt K mg a):FnOk P w K mg base CX0 1 a.g_Machine_led a.e_Machine_led ["self","room","letter"] (sp_Machine_led K a):=by
 refine T.fm_Machine_led.ok sc_Machine_led (fun vs H Q E h=>?_) (fun cdv A outer s H vs Q E hr h=>?_)
 ·obtain⟨_,_,_,_,_,_,_,rfl,_⟩:=h;rfl
 ·have hu64:=hr.units
  have hu1:=Nat.lt_of_le_of_lt (Nat.add_le_add_left (show 1≤64 by decide) _) hu64
  obtain⟨p,l,m,sp,i,s_,c,rfl,hp,hi,hc,q⟩:=h
  refine⟨_,(pss_one (ps_ret (pe_dget1 hu1 (pe_ix (ix_tupK (K:=K) rfl) (pe_ix (ix_listK (K:=K) rfl) (pe_fldK (K:=K) rfl (pv 0) rfl) (pv 1) (fun _ _=>rfl)) pe_int (fun _ _=>rfl)) (pv 2) ⟨rfl,rfl,rfl,rfl⟩))),?_⟩
  obtain⟨dx,qa,ys,h1,h2,h3⟩:=hp
  have e:=h3.len
  have hi':i<sp.length:=(List.getElem?_eq_some_iff.mp hi).1
  have hy:ys[i]?=some ys[i]:=List.getElem?_eq_getElem (by omega)
  obtain⟨t,d,w1,kvs,ey,ht,hd,_,_,hs,hway⟩:=h3.rooms i _ hy
  rw[hi]at hs
  injection hs with hs
  walk_at "rd"
  refine⟨p,_,dx,_,_,rfl,h1,T.cl_Machine,T.n_Machine_own_rooms,fldsM_rooms,qa,ys,_,ys[i],rfl,rfl,.mk h2,?_,?_⟩
  ·unfold atI ixN
   rw[if_pos (by omega),if_pos (by omega),Option.bind_some,Int.toNat_natCast]
   exact hy
  ·rw[ey]
   exact⟨t,_,_,_,rfl,rfl,.mk ht,rfl,d,rfl,.inl ⟨kvs,hd⟩,_,.inl ⟨kvs,kTx [c],hd,rfl,rfl⟩,q _ (by rw[hs];exact hway c hc)⟩
theorem sc_NoRoom_init:FnScope ["self","room"] ["self","room"] (defScope s_NoRoom_init):=⟨rfl,rfl,rfl,by decide +kernel,rfl,by decide +kernel,by decide +kernel⟩
theorem ok_NoRoom_init (T:Txt K mg a):FnOk P w K mg base CX0 1 a.g_NoRoom_init a.e_NoRoom_init ["self","room"] (spInit K a.c_NoRoom 1 (fs1 "room")):=by
 refine T.fi_NoRoom.ok sc_NoRoom_init (fun vs H Q E h=>?_) (fun cdv A outer s H vs Q E hr h=>?_)
 ·obtain⟨e,r,rfl,hl,_⟩:=h;simp[hl]
 ·have hu64:=hr.units
  have hu1:=Nat.lt_of_le_of_lt (Nat.add_le_add_left (show 1≤64 by decide) _) hu64
  obtain⟨e,r,rfl,hl,he,q⟩:=h
  obtain⟨x,rfl⟩:∃x,r=[x]:=by match r,hl with | [x],_=>exact⟨x,rfl⟩
  refine⟨_,(pss_cons (ps_expr (pe_xinit rfl T.m_LackError T.r_LackError (pa_cons (pv 0) (pa_cons (pe_strT (l:=[116,104,105,115,32,105,115,32,110,111,32,114,111,111,109,32,111,102,32,116,104,101,32,109,97,99,104,105,110,101]) (by decide +kernel)) pa_nil))))
   (pss_one (ps_xfld (pv 0) (pv 1) rfl))),?_⟩
  walk_at "rd"
  refine⟨e,a.c_NoRoom,none,_,rfl,he,T.x_NoRoom,(by show 1≤1000;decide),e,a.c_NoRoom,[],rfl,.bare he,T.x_NoRoom.c,T.n_NoRoom_room,(by show 0<1000;decide),fun H1 x1 k1 _=>?_⟩
  exact q H1 x1 fun b o hb hne=>k1 b o hb hne fun d hd=>by rw[he]at hd;exact absurd hd xo_ne
theorem sc_alike:FnScope ["_law_found","_law_word","_law_thing"] ["_law_found","_law_word","_law_thing"] (defScope s_alike):=⟨rfl,rfl,rfl,by decide +kernel,rfl,by decide +kernel,by decide +kernel⟩
theorem ok_alike (T:Txt K mg a):FnOk P w K mg base CX0 1 a.f_alike a.d_alike ["_law_found","_law_word","_law_thing"] (sp_alike K a):=by
 refine T.f_alike.ok sc_alike (fun vs H Q E h=>?_) (fun cdv A outer s H vs Q E hr h=>?_)
 ·obtain⟨_,_,_,rfl,_⟩:=h;rfl
 ·have hu64:=hr.units
  have hu1:=Nat.lt_of_le_of_lt (Nat.add_le_add_left (show 1≤64 by decide) _) hu64
  obtain⟨t,w_,v,rfl,ht,tm,q⟩:=h
  refine⟨_,(pss_one (ps_ret (pe_and (pe_cmpR (op_eqDK (K:=K) rfl hu64) (pe_ix (ix_tupK (K:=K) rfl) (pv 0) pe_int (fun _ _=>rfl)) (pv 1) (nomark _)) (pe_and (pe_cmpR (op_eqDK (K:=K) rfl hu64) (pe_callB (call_isinstR (K:=K) rfl) rfl T.z_isinstance bt_isinstance (pa_cons (pe_ix (ix_tupK (K:=K) rfl) (pv 0) pe_int (fun _ _=>rfl)) (pa_cons (pe_bltn (v:=.ty "bool") rfl T.z_bool bt_bool rfl) pa_nil))) (pe_callB (call_isinstR (K:=K) rfl) rfl T.z_isinstance bt_isinstance (pa_cons (pv 2) (pa_cons (pe_bltn (v:=.ty "bool") rfl T.z_bool bt_bool rfl) pa_nil))) (nomark _)) (pe_one (pe_cmpR (op_eqS (K:=K) rfl hu64) (pe_ix (ix_tupK (K:=K) rfl) (pv 0) pe_int (fun _ _=>rfl)) (pv 2) (nomark _))))))),?_⟩
  obtain⟨T0,b,ty,kb,se⟩:=tm
  walk_at "rd"
  refine⟨t,_,_,tx w_,rfl,rfl,.mk ht,rfl,eq_self (ownF rfl) ⟨true,rfl,iteT ⟨t,_,_,v,rfl,rfl,.mk ht,rfl,_,_,_,_,b,rfl,rfl,.ty ty,kb,_,_,_,_,b,rfl,rfl,.ty ty,kb,eq_self (ownF rfl) ⟨true,rfl,iteT ⟨t,_,_,v,rfl,rfl,.mk ht,rfl,?_⟩⟩⟩⟩⟩
  rcases se with⟨d,o⟩|⟨b2,kvs,rfl,hb⟩
  ·exact .inl (eq_self o q)
  ·exact .inr ⟨b2,kvs,rfl,rfl,hb,q⟩
theorem sc_Machine_rooms:FnScope ["self"] ["self"] (defScope s_Machine_rooms):=⟨rfl,rfl,rfl,by decide +kernel,rfl,by decide +kernel,by decide +kernel⟩
theorem ok_Machine_rooms (T:Txt K mg a):FnOk P w K mg base CX0 1 a.g_Machine_rooms a.e_Machine_rooms ["self"] (sp_Machine_rooms K a):=by
 refine T.fm_Machine_rooms.ok sc_Machine_rooms (fun vs H Q E h=>?_) (fun cdv A outer s H vs Q E hr h=>?_)
 ·obtain⟨_,_,_,_,rfl,_⟩:=h;rfl
 ·have hu64:=hr.units
  have hu1:=Nat.lt_of_le_of_lt (Nat.add_le_add_left (show 1≤64 by decide) _) hu64
  obtain⟨p,l,m,sp,rfl,hp,q⟩:=h
  refine⟨_,(pss_one (ps_ret (pe_callB (call_lenK (K:=K) rfl) rfl T.z_len bt_len (pa_cons (pe_fldK (K:=K) rfl (pv 0) rfl) pa_nil)))),?_⟩
  obtain⟨dx,qa,ys,h1,h2,h3⟩:=hp
  have e:=h3.len
  walk_at "rd"
  refine⟨p,_,dx,_,_,rfl,h1,T.cl_Machine,T.n_Machine_own_rooms,fldsM_rooms,_,_,rfl,.inl ⟨_,.mk h2,rfl⟩,?_⟩
  rw[e]
  exact q
theorem sc_is_kinds:FnScope ["thing"] ["thing"] (defScope s_is_kinds):=⟨rfl,rfl,rfl,by decide +kernel,rfl,by decide +kernel,by decide +kernel⟩
theorem ok_is_kinds (T:Txt K mg a):FnOk P w K mg base CX0 2 a.f_is_kinds a.d_is_kinds ["thing"] (sp_is_kinds K a):=by
 refine T.f_is_kinds.ok sc_is_kinds (fun vs H Q E h=>?_) (fun cdv A outer s H vs Q E hr h=>?_)
 ·obtain⟨_,rfl,_⟩:=h;rfl
 ·have hu64:=hr.units
  have hu1:=Nat.lt_of_le_of_lt (Nat.add_le_add_left (show 1≤64 by decide) _) hu64
  obtain⟨v,rfl,q⟩:=h
  refine⟨_,(pss_cons (ps_if (pt_not (pt_val (pe_callB (call_isinstR (K:=K) rfl) rfl T.z_isinstance bt_isinstance (pa_cons (pv 0) (pa_cons (pe_bltn (v:=.ty "str") rfl T.z_str bt_str rfl) pa_nil))))) (pss_one (ps_ret pe_bl)) pss_nil)
   (pss_cons (ps_if (PW.pt (pw_or (pt_cmpR op_lt (pe_callB (call_lenK (K:=K) rfl) rfl T.z_len bt_len (pa_cons (pv 0) pa_nil)) pe_int (nomark _)) (pw_or1 (pt_cmpR op_gt (pe_callB (call_lenK (K:=K) rfl) rfl T.z_len bt_len (pa_cons (pv 0) pa_nil)) (pe_globI rfl T.c_MOST_KINDS) (nomark _))))) (pss_one (ps_ret pe_bl)) pss_nil)
   (pss_one (ps_ret (pe_and (pe_call (ok_has_only T) (hr.mono (by decide)) rfl T.m_has_only T.f_has_only.kp T.b_has_only .nil pass0 (pa_cons (pv 0) (pa_cons (pe_globS rfl T.c_SMALL_LETTERS) pa_nil))) (pe_one (pe_cmpR (op_eqDK (K:=K) rfl hu64) (pe_callTy (call_list_tx rfl) rfl T.z_list bt_list (pa_cons (pv 0) pa_nil)) (pe_callB (call_sorted_set rfl) rfl T.z_sorted bt_sorted (pa_cons (pe_callTy (call_set_tx rfl) rfl T.z_set bt_set (pa_cons (pv 0) pa_nil)) pa_nil)) (nomark _)))))))),?_⟩
  walk_at "rd"
  rcases q with⟨l,rfl,hl,q⟩|⟨⟨T0,_,ty,kt,_⟩,q⟩
  ·refine⟨_,_,_,_,true,rfl,rfl,.ty (.pl (.str _)),kit_ss,iteF ?_⟩
   refine⟨_,_,rfl,lenTx hl,?_⟩
   refine ite2 (fun h=>iteT' ?_) (fun h=>?_)
   ·have h1:¬1≤l.length:=by have:=of_decide_eq_true h;omega
    have e:=q H (Same.refl _)
    unfold isk at e
    rw[decide_eq_false h1,Bool.false_and,Bool.false_and,Bool.false_and]at e
    exact e
   ·have h1:1≤l.length:=by have:¬((l.length:Nat):Int)<1:=fun z=>h (decide_eq_true z);omega
    refine⟨_,_,rfl,lenTx hl,?_⟩
    refine ite2 (fun h'=>?_) (fun h'=>?_)
    ·have h4:¬l.length≤4:=by have:=of_decide_eq_true h';omega
     have e:=q H (Same.refl _)
     unfold isk at e
     rw[decide_eq_false h4,Bool.and_false,Bool.false_and,Bool.false_and]at e
     exact e
    ·have h4:l.length≤4:=by have:¬4<((l.length:Nat):Int):=fun z=>h' (decide_eq_true z);omega
     refine⟨l,LET,by rw[let_str],hl,fun H2 s2=>⟨_,rfl,?_⟩⟩
     refine ite2 (fun ha=>?_) (fun ha=>?_)
     ·refine⟨l,rfl,hl,NewL.of fun p1 H3 s3 n3 l3=>?_⟩
      refine⟨signs l,by rw[signs_length];exact hl,.inl ⟨l,rfl,rfl⟩,fun p4 n4=>?_⟩
      refine⟨p4,ddl (signs l),rfl,upd_same,Nat.lt_of_le_of_lt (ddl_len l) (by omega),NewL.of fun p5 H5 s5 n5 l5=>?_⟩
      refine eqL_tx (.mk ((same_upd n4).trans s5 _ _ l3)) (.mk l5) ?_
      have e:=q H5 (s2.trans (s3.trans ((same_upd n4).trans s5)))
      unfold isk at e
      rw[decide_eq_true h1,decide_eq_true h4,ha,Bool.true_and,Bool.true_and,Bool.true_and]at e
      exact e
     ·have e:=q H2 s2
      unfold isk at e
      rw[Bool.eq_false_iff.mpr ha,Bool.and_false,Bool.false_and]at e
      exact e
  ·exact⟨_,_,_,_,false,rfl,rfl,.ty ty,kt,iteT q⟩
theorem sc_is_word:FnScope ["thing","kinds","most"] ["thing","kinds","most"] (defScope s_is_word):=⟨rfl,rfl,rfl,by decide +kernel,rfl,by decide +kernel,by decide +kernel⟩
theorem ok_is_word (T:Txt K mg a):FnOk P w K mg base CX0 2 a.f_is_word a.d_is_word ["thing","kinds","most"] (sp_is_word K a):=by
 refine T.f_is_word.ok sc_is_word (fun vs H Q E h=>?_) (fun cdv A outer s H vs Q E hr h=>?_)
 ·obtain⟨_,_,_,rfl,_⟩:=h;rfl
 ·have hu64:=hr.units
  have hu1:=Nat.lt_of_le_of_lt (Nat.add_le_add_left (show 1≤64 by decide) _) hu64
  obtain⟨v,m,most,rfl,q⟩:=h
  refine⟨_,(pss_one (ps_ret (pe_and (pe_callB (call_isinstR (K:=K) rfl) rfl T.z_isinstance bt_isinstance (pa_cons (pv 0) (pa_cons (pe_bltn (v:=.ty "str") rfl T.z_str bt_str rfl) pa_nil))) (pe_and (pe_cmpR op_le (pe_callB (call_lenK (K:=K) rfl) rfl T.z_len bt_len (pa_cons (pv 0) pa_nil)) (pv 2) (nomark _)) (pe_one (pe_call (ok_has_only T) (hr.mono (by decide)) rfl T.m_has_only T.f_has_only.kp T.b_has_only .nil pass0 (pa_cons (pv 0) (pa_cons (pv 1) pa_nil)))))))),?_⟩
  walk_at "rd"
  rcases q with⟨l,rfl,hl,q⟩|⟨⟨T0,_,ty,kt,_⟩,q⟩
  ·refine⟨_,_,_,_,true,rfl,rfl,.ty (.pl (.str _)),kit_ss,iteT ?_⟩
   refine⟨_,_,rfl,lenTx hl,?_⟩
   refine ite2 (fun h=>?_) (fun h=>?_)
   ·refine⟨l,m,rfl,hl,fun H2 s2=>?_⟩
    have e:=q H2 s2
    unfold isw at e
    rw[h,Bool.true_and]at e
    exact e
   ·have e:=q H (Same.refl _)
    unfold isw at e
    rw[Bool.eq_false_iff.mpr h,Bool.false_and]at e
    exact e
  ·exact⟨_,_,_,_,false,rfl,rfl,.ty ty,kt,iteF q⟩
theorem sc_rooms_of:FnScope ["text","kinds","spots","words","numbers","rooms","room","ways","letter","behind"] ["text","kinds"] (defScope s_rooms_of):=⟨rfl,rfl,rfl,by decide +kernel,rfl,by decide +kernel,by decide +kernel⟩
theorem ok_rooms_of (T:Txt K mg a):FnOk P w K mg base CX0 2 a.f_rooms_of a.d_rooms_of ["text","kinds"] (sp_rooms_of K a):=by
 refine T.f_rooms_of.ok sc_rooms_of (fun vs H Q E h=>?_) (fun cdv A outer s H vs Q E hr h=>?_)
 ·obtain⟨_,_,rfl,_⟩:=h;rfl
 ·have hu64:=hr.units
  have hu1:=Nat.lt_of_le_of_lt (Nat.add_le_add_left (show 1≤64 by decide) _) hu64
  obtain⟨l,m,rfl,hl,hm,hlm,q⟩:=h
  refine⟨_,(pss_cons (ps_set (i:=2) sc_rooms_of.nd rfl (Or.inl rfl) (pe_lst (pa_cons (pe_call (ok_first_spots T) (hr.mono (by decide)) rfl T.m_first_spots T.f_first_spots.kp T.b_first_spots .nil pass0 (pa_cons (pv 0) pa_nil)) pa_nil)))
   (pss_cons (ps_set (i:=3) sc_rooms_of.nd rfl (Or.inl rfl) (pe_lst (pa_cons (pe_strT (l:=[]) (by decide +kernel)) pa_nil)))
   (pss_cons (ps_set (i:=4) sc_rooms_of.nd rfl (Or.inl rfl) (pe_dispT1 hu1 (pe_ix (ix_listK (K:=K) rfl) (pv 2) pe_int (fun _ _=>rfl)) pe_int))
   (pss_cons (ps_set (i:=5) sc_rooms_of.nd rfl (Or.inl rfl) (pe_lst pa_nil))
   (pss_hold (pss_cons (ps_while PassesOwn.never (pt_cmpR op_lt (pe_callB (call_lenK (K:=K) rfl) rfl T.z_len bt_len (pa_cons (pv 5) pa_nil)) (pe_callB (call_lenK (K:=K) rfl) rfl T.z_len bt_len (pa_cons (pv 2) pa_nil)) (nomark _))
   (pss_cons (ps_set (i:=6) sc_rooms_of.nd rfl (Or.inl rfl) (pe_callB (call_lenK (K:=K) rfl) rfl T.z_len bt_len (pa_cons (pv 5) pa_nil)))
   (pss_cons (ps_set (i:=7) sc_rooms_of.nd rfl (Or.inl rfl) pe_dnewK)
   (pss_cons (ps_for PassesOwn.never rfl (pi_text (pv 1)) (pg_name (i:=8) sc_rooms_of.nd rfl (Or.inl rfl))
   (pss_cons (ps_set (i:=9) sc_rooms_of.nd rfl (Or.inl rfl) (pe_call (ok_spots_behind T) (hr.mono (by decide)) rfl T.m_spots_behind T.f_spots_behind.kp T.b_spots_behind .nil pass0 (pa_cons (pv 0) (pa_cons (pe_ix (ix_listK (K:=K) rfl) (pv 2) (pv 6) (fun _ _=>rfl)) (pa_cons (pv 8) pa_nil)))))
   (pss_hold (pss_cons (ps_if (PW.pt (pw_and (pt_cmpR op_gt (pe_callB (call_lenK (K:=K) rfl) rfl T.z_len bt_len (pa_cons (pv 9) pa_nil)) pe_int (nomark _)) (pw_and1 (pt_cmp (pc_dnotin hu1 (pv 9) (pv 4)))))) (pss_cons (ps_dput hu1 (pv 4) (pv 9) (pe_callB (call_lenK (K:=K) rfl) rfl T.z_len bt_len (pa_cons (pv 2) pa_nil)) rfl)
   (pss_cons (ps_expr (pe_bm PySem.F.plainAttrs_list PySem.F.slot_list_append PySem.F.type_list_append mt_append (pv 2) (pa_cons (pv 9) pa_nil)))
   (pss_one (ps_expr (pe_bm PySem.F.plainAttrs_list PySem.F.slot_list_append PySem.F.type_list_append mt_append (pv 3) (pa_cons (pe_op op_add_tx (pe_ix (ix_listK (K:=K) rfl) (pv 3) (pv 6) (fun _ _=>rfl)) (pv 8)) pa_nil)))))) pss_nil)
   (pss_hold (pss_one (ps_if (pt_cmpR op_gt (pe_callB (call_lenK (K:=K) rfl) rfl T.z_len bt_len (pa_cons (pv 9) pa_nil)) pe_int (nomark _)) (pss_one (ps_dput hu1 (pv 7) (pv 8) (pe_dget hu1 (pv 4) (pv 9) (fun _ _=>rfl)) rfl)) pss_nil)))))))
   (pss_hold (pss_one (ps_expr (pe_bm PySem.F.plainAttrs_list PySem.F.slot_list_append PySem.F.type_list_append mt_append (pv 5) (pa_cons (pe_tup (pa_cons (pe_ix (ix_listK (K:=K) rfl) (pv 3) (pv 6) (fun _ _=>rfl)) (pa_cons (pv 7) pa_nil))) pa_nil)))))))))
   (pss_one (ps_ret (pv 5))))))))),?_⟩
  have sz:∀k:Nat,k≤2000→k≤sizeLine:=fun k h=>Nat.le_trans h (by rw[sizeLine_eq];decide)
  walk_at "rd"
  refine⟨l,rfl,hl,fun t0 H1 s1 n1 h1=>⟨sz _ (by decide),NewL.of fun ps H2 s2 n2 h2=>⟨sz _ (by decide),NewL.of fun pw H3 s3 n3 h3=>?_⟩⟩⟩
  intro pn nn
  have npw:ps≠pw:=ne_of_none h2 n3
  have npn:ps≠pn:=ne_of_none (s3 _ _ h2) nn
  have nwn:pw≠pn:=ne_of_none h3 nn
  have s4:Same H3 (upd H3 pn (.dT [])):=same_upd nn
  have h4:upd H3 pn (.dT []) pn=some (.dT []):=upd_same
  generalize upd H3 pn (.dT [])=H4 at s4 h4
  have fH:H ps=none:=s1.free n2
  have fW:H pw=none:=(s1.trans s2).free n3
  have fN:H pn=none:=(s1.trans (s2.trans s3)).free nn
  have k0:H4 t0=some (.tup ((keyT (firstS l)).map kV)):=by rw[keyT_kV];exact(s2.trans (s3.trans s4)) _ _ h1
  refine⟨ps,_,_,.ref t0,rfl,rfl,.mk ((s3.trans s4) _ _ h2),rfl,t0,keyT (firstS l),rfl,k0,h4,Nat.zero_le _,?_⟩
  have S5:Same H (upd H4 pn (.dT [(keyT (firstS l),.int 0)])):=same_upd3 (s1.trans (s2.trans (s3.trans s4))) fN
  have R5:RInv (upd H4 pn (.dT [(keyT (firstS l),.int 0)])) ps pw pn l [firstS l] [[]] [t0]:=by
   refine⟨by rw[upd_ne npn];exact(s3.trans s4) _ _ h2,by rw[upd_ne nwn];exact s4 _ _ h3,upd_same,rfl,?_,rfl,?_,by simp,rfl⟩
   ·intro i t s h5 h6
    have hi:i=0:=by have:=(List.getElem?_eq_some_iff.mp h6).1;simpa using this
    subst hi
    simp at h5 h6
    rw[←h5,←h6,upd_ne (fun z=>by rw[z,h4]at k0;cases k0)]
    exact(s2.trans (s3.trans s4)) _ _ h1
   ·intro i w s h5 h6
    have hi:i=0:=by have:=(List.getElem?_eq_some_iff.mp h6).1;simpa using this
    subst hi
    simp at h5 h6
    rw[h5,←h6]
    exact⟨(spots_nil l).symm,Inf.nil l⟩
  generalize upd H4 pn (.dT [(keyT (firstS l),.int 0)])=H5 at S5 R5
  refine NewL.of fun pr H6 s6 n6 h6=>hold_of ?_
  have fR:H pr=none:=S5.free n6
  have nsr:ps≠pr:=ne_of_none R5.hs n6
  have nwr:pw≠pr:=ne_of_none R5.hw n6
  have nnr:pn≠pr:=ne_of_none R5.hn n6
  walk_at "rd"
  refine WhileRun.by (fun σ H'=>∃(sp ws:List (List Nat)) (ts:List Addr) (ys:List V) (v6 v7 v8 v9:Option V),σ=[some (tx l),some (tx m),some (.ref ps),some (.ref pw),some (.ref pn),some (.ref pr),v6,v7,v8,v9]∧Same H H'∧RInv H' ps pw pn l sp ws ts∧H' pr=some (.lst ys)∧ys.length≤sp.length∧∀i y,ys[i]?=some y→RoomP H' (fun _=>True) l m sp i y) (fun σ H'=>match H' pr with | some (.lst xs)=>2000-xs.length | _=>0) ⟨[firstS l],[[]],[t0],[],_,_,_,_,rfl,S5.trans s6,R5.same s6,h6,by simp,fun i y e=>by simp at e⟩ ?_
  rintro σ H7 ⟨sp,ws,ts,ys,v6,v7,v8,v9,rfl,S7,R7,r7,le7,rm7⟩
  refine⟨decide (ys.length<sp.length),fun Q' hq=>?_,fun H8 s8=>?_⟩
  ·walk_at "rd"
   refine⟨_,_,rfl,.inl ⟨_,.mk r7,rfl⟩,_,_,rfl,.inl ⟨_,.mk R7.hs,rfl⟩,?_⟩
   have e:decide (((ys.length:Nat):Int)<((ts.map V.ref).length:Nat))=decide (ys.length<sp.length):=by
    rw[List.length_map,R7.tl,Bool.eq_iff_iff,decide_eq_true_iff,decide_eq_true_iff]
    omega
   rw[e]
   exact hq H7 (Same.refl _)
  ·have R8:=R7.same s8
   have r8:=s8 _ _ r7
   have S8:=S7.trans s8
   have rm8:∀i y,ys[i]?=some y→RoomP H8 (fun _=>True) l m sp i y:=fun i y e=>(rm7 i y e).same s8
   refine ite2 (fun h=>?_) (fun h=>?_)
   ·have hlt:=of_decide_eq_true h
    have hle:=R8.le hl
    obtain⟨sr,hsr⟩:∃sr,sp[ys.length]?=some sr:=⟨_,List.getElem?_eq_getElem hlt⟩
    obtain⟨wr,hwr⟩:∃wr,ws[ys.length]?=some wr:=⟨_,List.getElem?_eq_getElem (by rw[R8.wl];exact hlt)⟩
    obtain⟨esr,hIr⟩:=R8.wt _ _ _ hwr hsr
    have lsr:sr.length≤41:=by rw[esr];have:=spots_len l wr;omega
    have lwr:wr.length≤40:=by have:=hIr.len;omega
    walk_at "rd"
    refine⟨_,_,rfl,.inl ⟨_,.mk r8,rfl⟩,?_⟩
    intro pd nd8
    have fD:H pd=none:=S8.free nd8
    have dsp:ps≠pd:=ne_of_none R8.hs nd8
    have dwp:pw≠pd:=ne_of_none R8.hw nd8
    have dnp:pn≠pd:=ne_of_none R8.hn nd8
    have drp:pr≠pd:=ne_of_none r8 nd8
    have s9:Same H8 (upd H8 pd (.dK [])):=same_upd nd8
    have d9:upd H8 pd (.dK []) pd=some (.dK []):=upd_same
    have rm9:∀i y,ys[i]?=some y→RoomP (upd H8 pd (.dK [])) (fun d=>d≠pd) l m sp i y:=fun i y e=>((rm8 i y e).mono fun d kvs hd _=>ne_of_none hd nd8).same s9
    generalize upd H8 pd (.dK [])=H9 at s9 d9 rm9
    refine⟨m,rfl,ForRun.text (fun k σ H'=>∃(sp ws:List (List Nat)) (ts:List Addr) (v8 v9:Option V) (kvs:List (Key×V)),σ=[some (tx l),some (tx m),some (.ref ps),some (.ref pw),some (.ref pn),some (.ref pr),some (.int ((ys.length:Nat):Int)),some (.ref pd),v8,v9]∧Same H H'∧RInv H' ps pw pn l sp ws ts∧H' pr=some (.lst ys)∧(∀i y,ys[i]?=some y→RoomP H' (fun d=>d≠pd) l m sp i y)∧H' pd=some (.dK kvs)∧kvs.length≤k∧sp[ys.length]?=some sr∧ws[ys.length]?=some wr∧(∀c∈m.take k,Way l sp sr c (valV kvs (kTx [c])))∧∀c,c∉m.take k→valV kvs (kTx [c])=none) ⟨sp,ws,ts,_,_,[],rfl,S8.trans s9,R8.same s9,s9 _ _ r8,rm9,d9,Nat.le_refl _,hsr,hwr,fun c h=>by simp at h,fun c _=>rfl⟩ ?_ ?_⟩
    ·clear rm9 rm8 rm7 R8 R7 hsr hwr le7 hlt h hle
     rintro k c σ H10 hc ⟨sp,ws,ts,v8,v9,kvs,rfl,S10,R10,r10,rm10,d10,kl,hsr,hwr,wy,wn⟩
     have hk:k<m.length:=(List.getElem?_eq_some_iff.mp hc).1
     have hlt:ys.length<sp.length:=(List.getElem?_eq_some_iff.mp hsr).1
     have hle:=R10.le hl
     obtain⟨tr,htr⟩:∃tr,ts[ys.length]?=some tr:=⟨_,List.getElem?_eq_getElem (by rw[R10.tl];exact hlt)⟩
     have et:m.take (k+1)=m.take k++[c]:=take_next hc
     have atr:atI (ts.map V.ref) ((ys.length:Nat):Int)=some (.ref tr):=by
      unfold atI ixN
      rw[if_pos (by omega),if_pos (by rw[List.length_map,R10.tl];omega),Option.bind_some,Int.toNat_natCast,List.getElem?_map,htr]
      rfl
     have atw:∀ {ws:List (List Nat)},ws[ys.length]?=some wr→atI (ws.map tx) ((ys.length:Nat):Int)=some (tx wr):=fun {ws} h=>by
      have hw:=(List.getElem?_eq_some_iff.mp h).1
      unfold atI ixN
      rw[if_pos (by omega),if_pos (by rw[List.length_map];omega),Option.bind_some,Int.toNat_natCast,List.getElem?_map,h]
      rfl
     walk_at "rd"
     refine⟨ps,_,_,.ref tr,rfl,rfl,.mk R10.hs,atr,l,sr,c,tr,rfl,hl,R10.tt _ _ _ htr hsr,lsr,fun tb H11 s11 n11 h11=>hold_of ?_⟩
     have R11:=R10.same s11
     have S11:=S10.trans s11
     have bsn:behindL l sr c=spotsAt l (wr++[c]):=by rw[esr,spots_snoc]
     have blen:(behindL l sr c).length≤41:=by rw[bsn];have:=spots_len l (wr++[c]);omega
     have hbk:H11 tb=some (.tup ((keyT (behindL l sr c)).map kV)):=by rw[keyT_kV];exact h11
     walk_at "rd"
     refine⟨_,_,rfl,.inr ⟨_,.mk h11,rfl⟩,?_⟩
     rw[List.length_map]
     have r11:=s11 _ _ r10
     have d11:=s11 _ _ d10
     have rm11:∀i y,ys[i]?=some y→RoomP H11 (fun d=>d≠pd) l m sp i y:=fun i y e=>(rm10 i y e).same s11
     apply with_tail1 (C:=fun H12=>∃(sp' ws':List (List Nat)) (ts':List Addr),Same H H12∧RInv H12 ps pw pn l sp' ws' ts'∧H12 pr=some (.lst ys)∧(∀i y,ys[i]?=some y→RoomP H12 (fun d=>d≠pd) l m sp' i y)∧H12 pd=some (.dK kvs)∧sp'[ys.length]?=some sr∧ws'[ys.length]?=some wr∧(∀c∈m.take k,Way l sp' sr c (valV kvs (kTx [c])))∧H12 tb=some (.tup ((keyT (behindL l sr c)).map kV))∧(behindL l sr c=[]∨behindL l sr c∈sp'))
     ·intro tail
      refine ite2 (fun h=>?A) (fun h=>?C)
      case C=>
       have e0:behindL l sr c=[]:=List.eq_nil_of_length_eq_zero (by have:=of_decide_eq_false (Bool.eq_false_iff.mpr h);omega)
       obtain⟨H12,e12⟩:∃H12,H12=H11:=⟨_,rfl⟩
       rw[←e12]
       refine iteF ?_
       exact tail H12 (by rw[e12];exact⟨sp,ws,ts,S11,R11,r11,rm11,d11,hsr,hwr,wy,hbk,.inl e0⟩)
      case A=>
       have hne:behindL l sr c≠[]:=fun e=>by rw[e]at h;simp at h
       refine⟨pn,_,rfl,.inr ⟨numK sp,keyT (behindL l sr c),tb,.inl R11.hn,rfl,hbk,rfl⟩,?_⟩
       by_cases hin:behindL l sr c∈sp
       ·obtain⟨j,hj⟩:=List.mem_iff_getElem?.mp hin
        rw[numK_at R11.nd hj]
        exact iteF (tail H11 ⟨sp,ws,ts,S11,R11,r11,rm11,d11,hsr,hwr,wy,hbk,.inr hin⟩)
       ·rw[numK_none hin]
        refine iteT ⟨_,_,rfl,.inl ⟨_,.mk R11.hs,rfl⟩,?_⟩
        rw[List.length_map,R11.tl]
        have lt2:∀n,n≤1681→n<sizeLine:=fun n h=>Nat.lt_of_lt_of_le (show n<2000 by omega) (sz 2000 (Nat.le_refl _))
        have hps:upd H11 pn (.dT (putK (numK sp) (keyT (behindL l sr c)) (.int (sp.length:Int)))) ps=some (.lst (ts.map V.ref)):=by rw[upd_ne npn];exact R11.hs
        refine⟨pn,_,rfl,DPut.t R11.hn hbk (by rw[numK_len];exact lt2 _ hle),.inl ⟨rfl,_,.mk hps⟩,ps,_,_,rfl,rfl,hps,by rw[List.length_map,R11.tl];exact lt2 _ hle,?_⟩
        have hpw:upd (upd H11 pn (.dT (putK (numK sp) (keyT (behindL l sr c)) (.int (sp.length:Int))))) ps (.lst (ts.map V.ref++[.ref tb])) pw=some (.lst (ws.map tx)):=by rw[upd_ne (Ne.symm npw),upd_ne nwn];exact R11.hw
        refine⟨.inl ⟨rfl,_,.mk hpw⟩,pw,_,_,_,rfl,rfl,.mk hpw,atw hwr,?_⟩
        walk_at "rd?"
        refine⟨sz _ (by omega),pw,_,_,rfl,rfl,hpw,by rw[List.length_map,R11.wl];exact lt2 _ hle,?_⟩
        have P:=R11.push npw npn nwn h11 hin bsn (spots_ne.mp (by rw[←bsn];exact hne))
        refine tail _ ⟨_,_,_,same_upd3 (same_upd3 (same_upd3 S11 fN) fH) fW,P,?_,?_,?_,?_,?_,fun c' h'=>(wy c' h').more,?_,.inr (by simp)⟩
        ·rw[upd_ne (Ne.symm nwr),upd_ne (Ne.symm nsr),upd_ne (Ne.symm nnr)];exact r11
        ·intro i y e
         have a1:=(rm11 i y e).other (o:=.dT (putK (numK sp) (keyT (behindL l sr c)) (.int (sp.length:Int)))) R11.hn (fun xs z=>by cases z) (fun d _=>.inr fun kvs z=>by cases z)
         have a2:=a1.other (o:=.lst (ts.map V.ref++[.ref tb])) hps (fun xs z=>by cases z) (fun d _=>.inr fun kvs z=>by cases z)
         exact(a2.other hpw (fun xs z=>by cases z) (fun d _=>.inr fun kvs z=>by cases z)).more
        ·rw[upd_ne (Ne.symm dwp),upd_ne (Ne.symm dsp),upd_ne (Ne.symm dnp)];exact d11
        ·rw[List.getElem?_append_left hlt];exact hsr
        ·rw[List.getElem?_append_left (by rw[R11.wl];exact hlt)];exact hwr
        ·rw[upd_ne (fun z=>by rw[z,R11.hw]at hbk;cases hbk),upd_ne (fun z=>by rw[z,R11.hs]at hbk;cases hbk),upd_ne (fun z=>by rw[z,R11.hn]at hbk;cases hbk)]
         exact hbk
     ·rintro H12 ⟨sp',ws',ts',S12,R12,r12,rm12,d12,hsr',hwr',wy',hb12,hin⟩
      refine hold_of ?_
      walk_at "rd"
      refine⟨_,_,rfl,.inr ⟨_,.mk hb12,rfl⟩,?_⟩
      rw[keyT_kV,List.length_map]
      have tk:∀c',c'∈m.take (k+1)→c'∈m.take k∨c'=c:=fun c' h'=>by
       rw[et]at h'
       rcases List.mem_append.mp h' with z | z
       ·exact .inl z
       ·exact .inr (List.mem_singleton.mp z)
      have tn:∀c',c'∉m.take (k+1)→c'∉m.take k∧c'≠c:=fun c' h'=>by
       rw[et]at h'
       exact⟨fun z=>h' (List.mem_append_left _ z),fun z=>h' (by rw[z];simp)⟩
      refine ite2 (fun h=>?_) (fun h=>?_)
      ·have hne:behindL l sr c≠[]:=fun e=>by rw[e]at h;simp at h
       obtain⟨j,hj⟩:=List.mem_iff_getElem?.mp (hin.resolve_left hne)
       refine⟨pn,.int (j:Int),rfl,.inr ⟨numK sp',keyT (behindL l sr c),tb,.inl R12.hn,rfl,hb12,(numK_at R12.nd hj).symm⟩,pd,_,rfl,DPut.k (k:=kTx [c]) d12 (Nat.lt_of_lt_of_le (show _<2000 by omega) (sz 2000 (Nat.le_refl _))),?_⟩
       refine⟨sp',ws',ts',_,_,putK kvs (kTx [c]) (.int (j:Int)),rfl,same_upd3 S12 fD,R12.other d12 (fun xs z=>by cases z) dsp dwp dnp,by rw[upd_ne drp];exact r12,fun i y e=>(rm12 i y e).other d12 (fun xs z=>by cases z) (fun d hd=>.inl hd),upd_same,by have:=length_putK kvs (kTx [c]) (.int (j:Int));omega,hsr',hwr',fun c' h'=>?_,fun c' h'=>?_⟩
       ·rw[valV_put]
        by_cases ec:c'=c
        ·rw[if_pos (by rw[ec]),ec]
         exact .inr ⟨hne,j,hj,rfl⟩
        ·rw[if_neg (fun z=>ec (kTx1.mp z))]
         exact wy' c' ((tk c' h').resolve_right ec)
       ·have hh:=tn c' h'
        rw[valV_put,if_neg (fun z=>hh.2 (kTx1.mp z))]
        exact wn c' hh.1
      ·have e0:behindL l sr c=[]:=List.eq_nil_of_length_eq_zero (by have:=of_decide_eq_false (Bool.eq_false_iff.mpr h);omega)
       refine⟨sp',ws',ts',_,_,kvs,rfl,S12,R12,r12,rm12,d12,by omega,hsr',hwr',fun c' h'=>?_,fun c' h'=>wn c' (tn c' h').1⟩
       by_cases hc':c'∈m.take k
       ·exact wy' c' hc'
       ·have ec:=(tk c' h').resolve_left hc'
        exact .inl ⟨by rw[ec];exact e0,wn c' hc'⟩
    ·clear rm9 rm8 rm7 R8 R7 hsr hwr le7 hlt h hle
     rintro σ H10 ⟨sp,ws,ts,v8,v9,kvs,rfl,S10,R10,r10,rm10,d10,kl,hsr,hwr,wy,wn⟩
     have hlt:ys.length<sp.length:=(List.getElem?_eq_some_iff.mp hsr).1
     have hle:=R10.le hl
     rw[List.take_length]at wy
     have atw:atI (ws.map tx) ((ys.length:Nat):Int)=some (tx wr):=by
      have hw:=(List.getElem?_eq_some_iff.mp hwr).1
      unfold atI ixN
      rw[if_pos (by omega),if_pos (by rw[List.length_map];omega),Option.bind_some,Int.toNat_natCast,List.getElem?_map,hwr]
      rfl
     walk_at "rd?"
     refine hold_of ?_
     walk_at "rd"
     refine⟨.inl ⟨rfl,_,.mk r10⟩,pw,_,_,_,rfl,rfl,.mk R10.hw,atw,sz _ (by decide),NewT.of fun pt H11 s11 n11 h11=>⟨pr,_,_,rfl,rfl,s11 _ _ r10,Nat.lt_of_lt_of_le (show _<2000 by omega) (sz 2000 (Nat.le_refl _)),?_⟩⟩
     have r11:=s11 _ _ r10
     refine⟨⟨sp,ws,ts,ys++[.ref pt],_,_,_,_,rfl,same_upd3 (S10.trans s11) fR,(R10.same s11).other r11 (fun xs z=>by cases z) nsr nwr nnr,upd_same,by rw[List.length_append,List.length_singleton];omega,fun i y e=>?_⟩,?_⟩
     ·by_cases ci:i<ys.length
      ·rw[List.getElem?_append_left ci]at e
       exact(((rm10 i y e).same s11).mono fun _ _ _ _=>trivial).other r11 (fun xs z=>by cases z) (fun d _=>.inr fun kvs z=>by cases z)
      ·have hi:i=ys.length:=by have:=(List.getElem?_eq_some_iff.mp e).1;rw[List.length_append,List.length_singleton]at this;omega
       subst hi
       rw[List.getElem?_append_right (by omega)]at e
       simp at e
       refine⟨pt,pd,wr,kvs,e.symm,?_,?_,trivial,hIr,hIr.len,by rw[←esr];exact hsr,fun c hc=>by rw[←esr];exact wy c hc⟩
       ·rw[upd_ne (fun z=>by rw[z,r11]at h11;cases h11)];exact h11
       ·rw[upd_ne (Ne.symm drp)];exact s11 _ _ d10
     ·show (match upd H11 pr (HO.lst (ys++[V.ref pt])) pr with | some (.lst xs)=>2000-xs.length | _=>0)<_
      rw[upd_same,r7]
      show 2000-(ys++[V.ref pt]).length<2000-ys.length
      rw[List.length_append,List.length_singleton]
      omega
   ·have e:ys.length=sp.length:=by have:=of_decide_eq_false (Bool.eq_false_iff.mpr h);omega
    walk_at "rd"
    refine q pr sp ys H8 S8 fR r8 ⟨R8.f0,e,R8.nd,fun i y hy=>?_⟩
    obtain⟨t,d,w,kvs,a1,a2,a3,_,a4⟩:=rm8 i y hy
    exact⟨t,d,w,kvs,a1,a2,.inl a3,a4⟩
theorem sc_lkinds:FnScope ["_law_cell","_law_at","_law_found","_law_k"] ["_law_cell"] (defScope s_lkinds):=⟨rfl,rfl,rfl,by decide +kernel,rfl,by decide +kernel,by decide +kernel⟩
theorem ok_lkinds (T:Txt K mg a):FnOk P w K mg base CX0 2 a.f_lkinds a.d_lkinds ["_law_cell"] (sp_lkinds K a):=by
 refine T.f_lkinds.ok sc_lkinds (fun vs H Q E h=>?_) (fun cdv A outer s H vs Q E hr h=>?_)
 ·obtain⟨_,rfl,_⟩:=h;rfl
 ·have hu64:=hr.units
  have hu1:=Nat.lt_of_le_of_lt (Nat.add_le_add_left (show 1≤64 by decide) _) hu64
  obtain⟨c,rfl,q⟩:=h
  refine⟨_,(pss_cons (ps_set (i:=1) sc_lkinds.nd rfl (Or.inl rfl) (pe_op op_mod (pe_call (ok_mixed T) (hr.mono (by decide)) rfl T.m_mixed T.f_mixed.kp T.b_mixed .nil pass0 (pa_cons (pv 0) (pa_cons pe_int pa_nil))) pe_int))
   (pss_cons (ps_set (i:=2) sc_lkinds.nd rfl (Or.inl rfl) (pe_ix ix_tx (pe_strT (l:=[97,98,99,100,101,102,103,104]) (by decide +kernel)) (pv 1) (fun _ _=>rfl)))
   (pss_cons (ps_for PassesOwn.never rfl (pi_range1 rfl T.z_range (pa_cons (pe_op op_mod (pe_call (ok_mixed T) (hr.mono (by decide)) rfl T.m_mixed T.f_mixed.kp T.b_mixed .nil pass0 (pa_cons (pv 0) (pa_cons pe_int pa_nil))) pe_int) pa_nil)) (pg_name (i:=3) sc_lkinds.nd rfl (Or.inl rfl))
   (pss_cons (ps_set (i:=1) sc_lkinds.nd rfl (Or.inl rfl) (pe_op op_add (pe_op op_add (pv 1) pe_int) (pe_op op_mod (pe_call (ok_mixed T) (hr.mono (by decide)) rfl T.m_mixed T.f_mixed.kp T.b_mixed .nil pass0 (pa_cons (pv 0) (pa_cons (pe_op op_add pe_int (pv 3)) pa_nil))) pe_int)))
   (pss_one (ps_set (i:=2) sc_lkinds.nd rfl (Or.inl rfl) (pe_op op_add_tx (pv 2) (pe_ix ix_tx (pe_strT (l:=[97,98,99,100,101,102,103,104,105,106,107,108,109,110,111,112,113,114,115,116,117,118,119,120,121,122]) (by decide +kernel)) (pv 1) (fun _ _=>rfl)))))))
   (pss_one (ps_ret (pv 2)))))),?_⟩
  have sz:∀k:Nat,k≤1000→k≤sizeLine:=fun k h=>Nat.le_trans h (by rw[sizeLine_eq];decide)
  walk_at "rd"
  refine⟨_,_,rfl,fun r0 h0=>?_⟩
  walk_at "rd?"
  have g1:=Int.emod_nonneg r0 (show (8:Int)≠0 by decide)
  have g2:=Int.emod_lt_of_pos r0 (show (0:Int)<8 by decide)
  generalize r0 % 8=a0 at g1 g2
  refine⟨by decide,[97,98,99,100,101,102,103,104],_,_,rfl,rfl,sz _ (by decide),atI_getD (by omega) (by show _<(8:Int);omega),_,_,rfl,fun r1 h1=>?_⟩
  rw[let8_at _ (by omega)]
  walk_at "rd?"
  refine⟨by decide,_,rfl,by omega,by omega,ForRun.range (fun i σ H'=>H'=H∧∃(at_:Int) (f:List Nat) (v3:Option V),σ=[some (.int c),some (.int at_),some (tx f),v3]∧0≤at_∧at_≤7+6*i∧f.length=i+1∧f.Pairwise (· < ·)∧∀x∈f,97≤x∧x≤97+at_.toNat) ⟨rfl,_,_,_,rfl,by omega,by omega,rfl,by simp,by simp⟩ ?_ ?_⟩
  ·rintro i σ H1 hi ⟨rfl,at_,f,v3,rfl,b0,b1,fl,fp,fm⟩
   walk_at "rd"
   refine⟨_,_,rfl,fun r2 h2=>?_⟩
   walk_at "rd?"
   have g3:=Int.emod_nonneg r2 (show (6:Int)≠0 by decide)
   have g4:=Int.emod_lt_of_pos r2 (show (0:Int)<6 by decide)
   generalize r2 % 6=a2 at g3 g4
   refine⟨by decide,LET,_,_,rfl,rfl,sz _ (by decide),atI_getD (by omega) (by show _<(26:Int);omega),sz _ (by omega),by trivial,_,_,_,rfl,by omega,by omega,by simp[fl],?_,?_⟩
   ·rw[let_at4 _ (by omega),List.pairwise_append]
    refine⟨fp,by simp,fun x hx y hy=>?_⟩
    rw[List.mem_singleton.mp hy]
    have:=fm x hx
    omega
   ·intro x hx
    rw[let_at4 _ (by omega)]at hx
    rcases List.mem_append.mp hx with z | z
    ·have:=fm x z;omega
    ·rw[List.mem_singleton.mp z];omega
  ·rintro σ H1 ⟨rfl,at_,f,v3,rfl,b0,b1,fl,fp,fm⟩
   walk_at "rd"
   exact q f (isk_of (by omega) (by omega) (fun x hx=>let_mem4 (fm x hx).1 (by have:=(fm x hx).2;omega)) fp) (by omega) (by omega)
theorem sc_drawn:FnScope ["_law_cell","_law_by_digits","_law_kinds_here","_law_many","_law_text_here","_law_left","_law_k","_law_number"] ["_law_cell","_law_by_digits","_law_kinds_here","_law_many"] (defScope s_drawn):=⟨rfl,rfl,rfl,by decide +kernel,rfl,by decide +kernel,by decide +kernel⟩
theorem ok_drawn (T:Txt K mg a):FnOk P w K mg base CX0 2 a.f_drawn a.d_drawn ["_law_cell","_law_by_digits","_law_kinds_here","_law_many"] (sp_drawn K a):=by
 refine T.f_drawn.ok sc_drawn (fun vs H Q E h=>?_) (fun cdv A outer s H vs Q E hr h=>?_)
 ·obtain⟨_,_,_,_,rfl,_⟩:=h;rfl
 ·have hu64:=hr.units
  have hu1:=Nat.lt_of_le_of_lt (Nat.add_le_add_left (show 1≤64 by decide) _) hu64
  obtain⟨c,d,m,n,rfl,hm,h4,h0,h1,q⟩:=h
  refine⟨_,(pss_cons (ps_set (i:=4) sc_drawn.nd rfl (Or.inl rfl) (pe_strT (l:=[]) (by decide +kernel)))
   (pss_cons (ps_set (i:=5) sc_drawn.nd rfl (Or.inl rfl) (pv 0))
   (pss_cons (ps_for PassesOwn.never rfl (pi_range1 rfl T.z_range (pa_cons (pv 3) pa_nil)) (pg_name (i:=6) sc_drawn.nd rfl (Or.inl rfl))
   (pss_cons (ps_set (i:=7) sc_drawn.nd rfl (Or.inl rfl) (pv 5))
   (pss_cons (ps_if (PW.pt (pw_or (pt_not (pt_val (pv 1))) (pw_or (pt_cmpR (op_eqDK (K:=K) rfl hu64) (pv 5) pe_int (nomark _)) (pw_or1 (pt_cmpR (op_eqDK (K:=K) rfl hu64) (pv 5) (pe_un un_neg pe_int) (nomark _)))))) (pss_one (ps_set (i:=7) sc_drawn.nd rfl (Or.inl rfl) (pe_call (ok_mixed T) (hr.mono (by decide)) rfl T.m_mixed T.f_mixed.kp T.b_mixed .nil pass0 (pa_cons (pv 0) (pa_cons (pe_op op_add pe_int (pv 6)) pa_nil))))) pss_nil)
   (pss_hold (pss_cons (ps_set (i:=4) sc_drawn.nd rfl (Or.inl rfl) (pe_op op_add_tx (pv 4) (pe_ix ix_tx (pv 2) (pe_op op_mod (pv 7) (pe_callB (call_lenK (K:=K) rfl) rfl T.z_len bt_len (pa_cons (pv 2) pa_nil))) (fun _ _=>rfl))))
   (pss_one (ps_set (i:=5) sc_drawn.nd rfl (Or.inl rfl) (pe_op op_fdiv (pv 5) (pe_callB (call_lenK (K:=K) rfl) rfl T.z_len bt_len (pa_cons (pv 2) pa_nil))))))))))
   (pss_one (ps_ret (pv 4)))))),?_⟩
  walk_at "rd"
  refine⟨n,rfl,by omega,by omega,ForRun.range (fun i σ H'=>H'=H∧∃(f:List Nat) (le:Int) (v6 v7:Option V),σ=[some (.int c),some (.bl d),some (tx m),some (.int n),some (tx f),some (.int le),v6,v7]∧f.length=i∧∀x∈f,x∈m) ⟨rfl,[],c,none,none,rfl,rfl,by simp⟩ ?_ ?_⟩
  ·rintro i σ H1 hi ⟨rfl,f,le,v6,v7,rfl,hf,fm⟩
   have hM:m.length≤1000:=by omega
   have sz:m.length≤sizeLine:=Nat.le_trans hM (by rw[sizeLine_eq];decide)
   have sf:f.length+1≤sizeLine:=by rw[sizeLine_eq];omega
   have pm:(0:Int)<m.length:=by omega
   have cd:CDiv le m.length:=⟨pm,by omega⟩
   walk_at "rd"
   apply with_tailI (C:=fun _=>True)
   ·intro tail
    refine ite2 (fun h=>iteT' ⟨_,_,rfl,fun r hr=>tail r trivial⟩) (fun h=>.inl ⟨rfl,_,rfl,ite2 (fun h=>iteT' ⟨_,_,rfl,fun r hr=>tail r trivial⟩) (fun h=>.inl ⟨rfl,_,rfl,ite2 (fun h=>⟨_,_,rfl,fun r hr=>tail r trivial⟩) (fun h=>tail le trivial)⟩)⟩)
   ·intro nu _
    refine hold_of ?_
    walk_at "rd"
    obtain⟨cc,hcc,mc⟩:=atI_ok (xs:=m) (i:=nu % m.length) (Int.emod_nonneg _ (by omega)) (Int.emod_lt_of_pos _ pm)
    exact⟨_,_,rfl,lenTx hM,pm,m,_,cc,rfl,rfl,sz,hcc,sf,_,_,rfl,lenTx hM,cd,by trivial,_,_,_,_,rfl,by simp[hf],fun x hx=>(List.mem_append.mp hx).elim (fun z=>fm x z) fun z=>by rw[List.mem_singleton.mp z];exact mc⟩
  ·rintro σ H1 ⟨rfl,f,le,v6,v7,rfl,hf,fm⟩
   walk_at "rd"
   exact q f (by omega) fm
theorem sc_Machine_counts_behind:FnScope ["self","counts","behind","room","letter","reached"] ["self","counts"] (defScope s_Machine_counts_behind):=⟨rfl,rfl,rfl,by decide +kernel,rfl,by decide +kernel,by decide +kernel⟩
theorem ok_Machine_counts_behind (T:Txt K mg a):FnOk P w K mg base CX0 2 a.g_Machine_counts_behind a.e_Machine_counts_behind ["self","counts"] (sp_Machine_counts_behind K a):=by
 refine T.fm_Machine_counts_behind.ok sc_Machine_counts_behind (fun vs H Q E h=>?_) (fun cdv A outer s H vs Q E hr h=>?_)
 ·obtain⟨_,_,_,_,_,_,_,_,rfl,_⟩:=h;rfl
 ·have hu64:=hr.units
  have hu1:=Nat.lt_of_le_of_lt (Nat.add_le_add_left (show 1≤64 by decide) _) hu64
  obtain⟨p,pd,l,m,sp,W,js,k,rfl,hp,ok,hd,ci,wa,q⟩:=h
  refine⟨_,(pss_cons (ps_set (i:=2) sc_Machine_counts_behind.nd rfl (Or.inl rfl) pe_dnewK)
   (pss_hold (pss_cons (ps_thaw (ps_for PassesOwn.never rfl (pi_dict (pv 1)) (pg_name (i:=3) sc_Machine_counts_behind.nd rfl (Or.inl rfl))
   (pss_one (ps_for PassesOwn.never rfl (pi_text (pe_fldK (K:=K) rfl (pv 0) rfl)) (pg_name (i:=4) sc_Machine_counts_behind.nd rfl (Or.inl rfl))
   (pss_cons (ps_set (i:=5) sc_Machine_counts_behind.nd rfl (Or.inl rfl) (pe_meth (pv 0) T.cl_Machine T.me_Machine_led (ok_Machine_led T) (hr.mono (by decide)) T.b_Machine_led .nil pass0 (pa_cons (pv 3) (pa_cons (pv 4) pa_nil))))
   (pss_hold (pss_one (ps_if (pt_cmpR op_notN (pv 5) pe_non (nomark _)) (pss_one (ps_dput hu1 (pv 2) (pv 5) (pe_op op_add (pe_dget2 hu1 (pv 2) (pv 5) pe_int ⟨rfl,rfl,rfl,rfl⟩) (pe_dget hu1 (pv 1) (pv 3) (fun _ _=>rfl))) rfl)) pss_nil))))))))
   (pss_hold (pss_one (ps_ret (pv 2))))))),?_⟩
  have sz:∀k:Nat,k≤3000→k≤sizeLine:=fun k h=>Nat.le_trans h (by rw[sizeLine_eq];decide)
  have l40:=ok.l40
  obtain⟨dx,qa,ys,h1,h2,h3⟩:=id hp
  have M:=h3.msp
  have spl:sp.length≤1681:=rooms_le M.nd (fun s hs=>let ⟨i,hi⟩:=List.mem_iff_getElem?.mp hs;M.word i s hi) l40
  walk_at "rd"
  intro pb nb
  have ne:pd≠pb:=ne_of_none hd nb
  refine hold_of ?_
  walk_at "rd"
  have hd1:upd H pb (.dK []) pd=some (.dK (CD l sp W js)):=by rw[upd_ne ne];exact hd
  refine⟨pd,_,hd1,pd,_,rfl,hd1,fun o=>?_⟩
  have hf:=hp.freeze (o:=o) hd
  obtain⟨dx',qa',ys',f1,f2,f3⟩:=id hf
  have ff:upd H pd (.frz o (.dK (CD l sp W js))) pd=some (.frz o (.dK (CD l sp W js))):=upd_same
  have nbf:upd H pd (.frz o (.dK (CD l sp W js))) pb=none:=by rw[upd_ne (Ne.symm ne)];exact nb
  have s0:Same (upd H pd (.frz o (.dK (CD l sp W js)))) (upd (upd H pb (.dK [])) pd (.frz o (.dK (CD l sp W js)))):=fun b u hb=>by
   by_cases e:b=pd
   ·rw[e,upd_same]at hb ⊢;exact hb
   ·rw[upd_ne e]at hb ⊢
    rw[upd_ne (fun z=>by rw[z,nb]at hb;cases hb)]
    exact hb
  have b0:upd (upd H pb (.dK [])) pd (.frz o (.dK (CD l sp W js))) pb=some (.dK (CD l sp [] [])):=by rw[upd_ne (Ne.symm ne),upd_same];rfl
  have c0:CInv l sp [] []:=⟨by simp,fun _ h=>(by cases h),fun _ h=>(by cases h),fun _ h=>(by cases h)⟩
  refine ForRun.dict (fun i σ H'=>∃(W2:List (List Nat)) (js2:List Nat) (v3 v4 v5:Option V),σ=[some (.ref p),some (.ref pd),some (.ref pb),v3,v4,v5]∧Same (upd H pd (.frz o (.dK (CD l sp W js)))) H'∧H' pb=some (.dK (CD l sp W2 js2))∧CInv l sp W2 js2∧WInv l m sp W js i 0 W2) ⟨[],[],_,_,_,rfl,s0,b0,c0,WInv.start ..⟩ (fun i σ H' ⟨_,_,_,_,_,_,s',_⟩=>s' _ _ ff) ?_ ?_
  ·rintro i kv σ H1 hkv ⟨W2,js2,v3,v4,v5,rfl,s1,b1,c1,w1⟩
   obtain⟨j,hj,ej⟩:∃j,js[i]?=some j∧kv.1=kInt j:=by
    unfold CD at hkv
    rw[List.getElem?_map]at hkv
    cases e:js[i]? with
    | none=>rw[e]at hkv;cases hkv
    | some j=>rw[e]at hkv;cases hkv;exact⟨j,rfl,rfl⟩
   have jm:=List.mem_of_getElem? hj
   have jl:=ci.lt j jm
   obtain⟨u,iu,eu⟩:=M.word j _ (List.getElem?_eq_getElem jl)
   have hju:sp[j]?=some (spotsAt l u):=by rw[List.getElem?_eq_getElem jl,eu]
   rw[ej,show kV (kInt j)=V.int ((j:Nat):Int) from rfl]
   walk_at "rd"
   refine⟨p,_,dx',_,_,rfl,s1 _ _ f1,T.cl_Machine,T.n_Machine_own_kinds,fldsM_kinds,m,rfl,ForRun.text (fun x σ H'=>∃(W2:List (List Nat)) (js2:List Nat) (v4 v5:Option V),σ=[some (.ref p),some (.ref pd),some (.ref pb),some (.int ((j:Nat):Int)),v4,v5]∧Same (upd H pd (.frz o (.dK (CD l sp W js)))) H'∧H' pb=some (.dK (CD l sp W2 js2))∧CInv l sp W2 js2∧WInv l m sp W js i x W2) ⟨W2,js2,_,_,rfl,s1,b1,c1,w1⟩ ?_ ?_⟩
   ·clear w1 c1 b1 s1
    rintro x c σ H2 hc ⟨W2,js2,v4,v5,rfl,s2,b2,c2,w2⟩
    have cm:=List.mem_of_getElem? hc
    walk_at "rd"
    refine⟨p,dx',_,rfl,s2 _ _ f1,fldsM_no (by decide +kernel) (by decide +kernel),p,l,m,sp,j,_,c,rfl,hf.same s2,hju,cm,fun o1 y1=>?_⟩
    rw[y1.nv M.nd hju]
    walk_at "rd?"
    refine hold_of ?_
    walk_at "rd"
    refine⟨trivial,?_⟩
    rw[nV_dec]
    cases hdl:dlt l sp j c with
    | none=>exact iteF ⟨W2,js2,_,_,rfl,s2,b2,c2,w2.skip M hj hc hdl⟩
    | some j2=>
     have jl2:j2<sp.length:=(List.getElem?_eq_some_iff.mp (dlt_some hju hdl).2).1
     have hB:∀w∈(inR l sp W j).map (fun y=>y++[c]),sp[j2]?=some (spotsAt l w):=fun w hw=>by
      obtain⟨y,hy,rfl⟩:=List.mem_map.mp hw
      exact(dlt_some (of_decide_eq_true (List.mem_filter.mp hy).2) hdl).2
     have nB:(inR l sp W j).map (fun y=>y++[c])≠[]:=by
      obtain⟨w0,hw0,e0⟩:=ci.some_ j jm
      exact List.ne_nil_of_mem (List.mem_map_of_mem (List.mem_filter.mpr ⟨hw0,decide_eq_true e0⟩))
     obtain⟨js3,c3,e3⟩:=c2.add M.nd jl2 hB nB
     rw[List.length_map]at e3
     have cl:=c2.len
     refine iteT ⟨pb,rfl,.inl ⟨_,.inl b2⟩,_,.inl ⟨_,kInt j2,.inl b2,rfl,rfl⟩,pd,_,rfl,.inl ⟨_,kInt j,.inr ⟨o,s2 _ _ ff⟩,rfl,(CD_val jm).symm⟩,?_⟩
     rw[CD_get c2 M.nd]
     refine⟨_,_,rfl,rfl,pb,_,rfl,DPut.k (k:=kInt j2) b2 (by rw[CD_len];exact Nat.lt_of_lt_of_le (show _<3000 by omega) (sz 3000 (Nat.le_refl _))),?_⟩
     dsimp only
     rw[show (((inR l sp W2 j2).length:Nat):Int)+(((inR l sp W j).length:Nat):Int)=(((inR l sp W2 j2).length+(inR l sp W j).length:Nat):Int) by omega,e3]
     exact⟨_,js3,_,_,rfl,same_upd3 s2 nbf,upd_same,c3,w2.more M (isk_nd ok.k) ci.nd wa.1 hj hc hdl⟩
   ·rintro σ H2 ⟨W2,js2,v4,v5,rfl,s2,b2,c2,w2⟩
    exact⟨W2,js2,_,_,_,rfl,s2,b2,c2,w2.next hj⟩
  ·rintro σ H1 ⟨W2,js2,v3,v4,v5,rfl,s1,b1,c1,w1⟩
   rw[CD_len]at w1
   refine⟨o,_,s1 _ _ ff,?_⟩
   have st:Same H (upd H1 pd (.dK (CD l sp W js))):=Same.thaw (H1:=H) hd s1
   have b2:upd H1 pd (.dK (CD l sp W js)) pb=some (.dK (CD l sp W2 js2)):=by rw[upd_ne (Ne.symm ne)];exact b1
   generalize upd H1 pd (.dK (CD l sp W js))=H2 at st b2
   walk_at "rd?"
   refine hold_of ?_
   walk_at "rd"
   exact q pb W2 js2 H2 st nb b2 c1 (w1.all ok.mem ci wa)
theorem sc_is_letter:FnScope ["thing","kinds"] ["thing","kinds"] (defScope s_is_letter):=⟨rfl,rfl,rfl,by decide +kernel,rfl,by decide +kernel,by decide +kernel⟩
theorem ok_is_letter (T:Txt K mg a):FnOk P w K mg base CX0 3 a.f_is_letter a.d_is_letter ["thing","kinds"] (sp_is_letter K a):=by
 refine T.f_is_letter.ok sc_is_letter (fun vs H Q E h=>?_) (fun cdv A outer s H vs Q E hr h=>?_)
 ·obtain⟨_,_,rfl,_⟩:=h;rfl
 ·have hu64:=hr.units
  have hu1:=Nat.lt_of_le_of_lt (Nat.add_le_add_left (show 1≤64 by decide) _) hu64
  obtain⟨v,m,rfl,q⟩:=h
  refine⟨_,(pss_one (ps_ret (pe_and (pe_call (ok_is_word T) (hr.mono (by decide)) rfl T.m_is_word T.f_is_word.kp T.b_is_word .nil pass0 (pa_cons (pv 0) (pa_cons (pv 1) (pa_cons pe_int pa_nil)))) (pe_one (pe_cmpR (op_eqDK (K:=K) rfl hu64) (pe_callB (call_lenK (K:=K) rfl) rfl T.z_len bt_len (pa_cons (pv 0) pa_nil)) pe_int (nomark _)))))),?_⟩
  walk_at "rd"
  rcases q with⟨l,rfl,hl,q⟩|⟨o,q⟩
  ·refine⟨_,m,1,rfl,.inl ⟨l,rfl,hl,fun H1 s1=>⟨_,rfl,ite2 (fun h=>?_) (fun h=>?_)⟩⟩⟩
   ·refine⟨_,_,rfl,lenTx hl,.inl ⟨rfl,?_⟩⟩
    have e:=q H1 s1
    unfold isl at e
    rw[h,Bool.true_and]at e
    rw[if_neg Bool.false_ne_true]
    simpa using e
   ·have e:=q H1 s1
    unfold isl at e
    rw[Bool.eq_false_iff.mpr h,Bool.false_and]at e
    exact e
  ·exact⟨_,m,1,rfl,.inr ⟨o,_,rfl,iteF q⟩⟩
theorem sc_need_kinds:FnScope ["thing"] ["thing"] (defScope s_need_kinds):=⟨rfl,rfl,rfl,by decide +kernel,rfl,by decide +kernel,by decide +kernel⟩
theorem ok_need_kinds (T:Txt K mg a):FnOk P w K mg base (CXr P w) 3 a.f_need_kinds a.d_need_kinds ["thing"] (sp_need_kinds K a):=by
 refine T.f_need_kinds.okX sc_need_kinds (fun vs H Q E h=>?_) (fun cdv A outer s H vs Q E hr h=>?_)
 ·obtain⟨_,rfl,_⟩:=h;rfl
 ·have hu64:=hr.units
  have hu1:=Nat.lt_of_le_of_lt (Nat.add_le_add_left (show 1≤64 by decide) _) hu64
  obtain⟨v,rfl,q⟩:=h
  refine⟨_,(pss_one (ps_if (pt_not (pt_val (pe_call (ok_is_kinds T) (hr.mono (by decide)) rfl T.m_is_kinds T.f_is_kinds.kp T.b_is_kinds .nil pass0 (pa_cons (pv 0) pa_nil)))) (pss_one (ps_raise cx_raises rfl (pe_xmake0 T.x_NoKinds T.i_NoKinds rfl T.m_NoKinds (pa_cons (pe_strT (l:=[107,105,110,100,115,32,97,114,101,32,111,110,101,32,116,111,32,102,111,117,114,32,117,110,108,105,107,101,32,115,109,97,108,108,32,108,101,116,116,101,114,115,44,32,114,105,115,105,110,103]) (by decide +kernel)) pa_nil)))) pss_nil)),?_⟩
  walk_at "rd"
  have up:∀H1,Same H H1→XNk a E H→(1≤1000∧Mk0 a.c_NoKinds H1 fun v H1=>∃e C d,v=.ref e∧H1 e=some (xo e C d)∧Xm K C∧E (.ref C) (some e) (upd H1 e (xr e C d))):=fun H1 s1 z=>
   ⟨by decide,fun e he=>⟨e,_,none,rfl,upd_same,T.x_NoKinds,z e _ (s1.trans (same_upd2 he)) (.bare upd_same)⟩⟩
  rcases q with⟨l,rfl,hl,hk,q⟩|⟨⟨l,rfl,hl,hk⟩ | o,q⟩
  ·exact⟨_,rfl,.inl ⟨l,rfl,hl,fun H2 s2=>⟨_,rfl,by rw[hk];exact iteF (q H2 s2)⟩⟩⟩
  ·exact⟨_,rfl,.inl ⟨l,rfl,hl,fun H2 s2=>⟨_,rfl,by rw[hk];exact iteT (up H2 s2 q)⟩⟩⟩
  ·exact⟨_,rfl,.inr ⟨o,_,rfl,iteT (up H (Same.refl _) q)⟩⟩
theorem sc_need_word:FnScope ["thing","kinds","most"] ["thing","kinds","most"] (defScope s_need_word):=⟨rfl,rfl,rfl,by decide +kernel,rfl,by decide +kernel,by decide +kernel⟩
theorem ok_need_word (T:Txt K mg a):FnOk P w K mg base (CXr P w) 3 a.f_need_word a.d_need_word ["thing","kinds","most"] (sp_need_word K a):=by
 refine T.f_need_word.okX sc_need_word (fun vs H Q E h=>?_) (fun cdv A outer s H vs Q E hr h=>?_)
 ·obtain⟨_,_,_,rfl,_⟩:=h;rfl
 ·have hu64:=hr.units
  have hu1:=Nat.lt_of_le_of_lt (Nat.add_le_add_left (show 1≤64 by decide) _) hu64
  obtain⟨v,m,most,rfl,q⟩:=h
  refine⟨_,(pss_one (ps_if (pt_not (pt_val (pe_call (ok_is_word T) (hr.mono (by decide)) rfl T.m_is_word T.f_is_word.kp T.b_is_word .nil pass0 (pa_cons (pv 0) (pa_cons (pv 1) (pa_cons (pv 2) pa_nil)))))) (pss_one (ps_raise cx_raises rfl (pe_xmake T.x_NoWord T.i_NoWord T.fn_NoWord (ok_NoWord_init T) (hr.mono (by decide)) T.b_NoWord pass0 rfl T.m_NoWord (pa_cons (pv 0) pa_nil)))) pss_nil)),?_⟩
  walk_at "rd"
  have up:∀H1,Same H H1→XNw a E H v→(1≤1000∧MkI (spInit K a.c_NoWord 1 (fs1 (Str.ofString "word"))) E0 a.c_NoWord [v] H1 fun v H1=>∃e C d,v=.ref e∧H1 e=some (xo e C d)∧Xm K C∧E (.ref C) (some e) (upd H1 e (xr e C d))):=fun H1 s1 z=>
   ⟨by decide,MkI.of rfl fun e H2 s2 n2 x2=>by
    obtain⟨d,hd,hx⟩:=raise_any x2
    exact⟨e,_,d,rfl,hd,T.x_NoWord,z e _ (s1.trans (same_upd3 s2 n2)) hx⟩⟩
  rcases q with⟨l,rfl,hl,hk,q⟩|⟨⟨l,rfl,hl,hk⟩ | o,q⟩
  ·exact⟨_,_,_,rfl,.inl ⟨l,rfl,hl,fun H2 s2=>⟨_,rfl,by rw[hk];exact iteF (q H2 s2)⟩⟩⟩
  ·exact⟨_,_,_,rfl,.inl ⟨l,rfl,hl,fun H2 s2=>⟨_,rfl,by rw[hk];exact iteT (up H2 s2 q)⟩⟩⟩
  ·exact⟨_,_,_,rfl,.inr ⟨o,_,rfl,iteT (up H (Same.refl _) q)⟩⟩
theorem sc_ltext:FnScope ["_law_cell","_law_way","_law_kinds_here","_law_most","_law_many","_law_base","_law_text_here","_law_at"] ["_law_cell","_law_way","_law_kinds_here","_law_most"] (defScope s_ltext):=⟨rfl,rfl,rfl,by decide +kernel,rfl,by decide +kernel,by decide +kernel⟩
theorem ok_ltext (T:Txt K mg a):FnOk P w K mg base CX0 3 a.f_ltext a.d_ltext ["_law_cell","_law_way","_law_kinds_here","_law_most"] (sp_ltext K a):=by
 refine T.f_ltext.ok sc_ltext (fun vs H Q E h=>?_) (fun cdv A outer s H vs Q E hr h=>?_)
 ·obtain⟨_,_,_,rfl,_⟩:=h;rfl
 ·have hu64:=hr.units
  have hu1:=Nat.lt_of_le_of_lt (Nat.add_le_add_left (show 1≤64 by decide) _) hu64
  obtain⟨c,d,m,rfl,hm,h4,q⟩:=h
  refine⟨_,(pss_cons (ps_set (i:=4) sc_ltext.nd rfl (Or.inl rfl) (pe_op op_mod (pe_call (ok_mixed T) (hr.mono (by decide)) rfl T.m_mixed T.f_mixed.kp T.b_mixed .nil pass0 (pa_cons (pv 1) (pa_cons pe_int pa_nil))) pe_int))
   (pss_hold (pss_cons (ps_if (pt_cmpR (op_eqDK (K:=K) rfl hu64) (pe_op op_mod (pe_call (ok_mixed T) (hr.mono (by decide)) rfl T.m_mixed T.f_mixed.kp T.b_mixed .nil pass0 (pa_cons (pv 1) (pa_cons pe_int pa_nil))) pe_int) pe_int (nomark _)) (pss_one (ps_set (i:=4) sc_ltext.nd rfl (Or.inl rfl) (pe_op op_mod (pe_call (ok_mixed T) (hr.mono (by decide)) rfl T.m_mixed T.f_mixed.kp T.b_mixed .nil pass0 (pa_cons (pv 1) (pa_cons pe_int pa_nil))) (pe_op op_add (pv 3) pe_int)))) pss_nil)
   (pss_hold (pss_cons (ps_if (pt_cmpR op_gt (pe_op op_mod (pe_call (ok_mixed T) (hr.mono (by decide)) rfl T.m_mixed T.f_mixed.kp T.b_mixed .nil pass0 (pa_cons (pv 1) (pa_cons pe_int pa_nil))) pe_int) pe_int (nomark _)) (pss_one (ps_ret (pe_call (ok_drawn T) (hr.mono (by decide)) rfl T.m_drawn T.f_drawn.kp T.b_drawn .nil pass0 (pa_cons (pv 0) (pa_cons (pe_cmpR (op_eqDK (K:=K) rfl hu64) (pe_op op_mod (pe_call (ok_mixed T) (hr.mono (by decide)) rfl T.m_mixed T.f_mixed.kp T.b_mixed .nil pass0 (pa_cons (pv 1) (pa_cons pe_int pa_nil))) pe_int) pe_int (nomark _)) (pa_cons (pv 2) (pa_cons (pv 4) pa_nil))))))) pss_nil)
   (pss_hold (pss_cons (ps_set (i:=5) sc_ltext.nd rfl (Or.inl rfl) (pe_call (ok_drawn T) (hr.mono (by decide)) rfl T.m_drawn T.f_drawn.kp T.b_drawn .nil pass0 (pa_cons (pv 0) (pa_cons (pe_cmpR (op_eqDK (K:=K) rfl hu64) (pe_op op_mod (pe_call (ok_mixed T) (hr.mono (by decide)) rfl T.m_mixed T.f_mixed.kp T.b_mixed .nil pass0 (pa_cons (pv 1) (pa_cons pe_int pa_nil))) pe_int) pe_int (nomark _)) (pa_cons (pv 2) (pa_cons (pe_op op_add pe_int (pe_op op_mod (pe_call (ok_mixed T) (hr.mono (by decide)) rfl T.m_mixed T.f_mixed.kp T.b_mixed .nil pass0 (pa_cons (pv 1) (pa_cons pe_int pa_nil))) pe_int)) pa_nil))))))
   (pss_cons (ps_set (i:=6) sc_ltext.nd rfl (Or.inl rfl) (pe_slice sl_tx (pe_op op_mul_tx (pv 5) (pv 4)) po_none (po_some (pv 4))))
   (pss_hold (pss_cons (ps_if (PW.pt (pw_and (pt_cmpR op_gt (pv 4) pe_int (nomark _)) (pw_and1 (pt_cmpR (op_eqDK (K:=K) rfl hu64) (pe_op op_mod (pe_call (ok_mixed T) (hr.mono (by decide)) rfl T.m_mixed T.f_mixed.kp T.b_mixed .nil pass0 (pa_cons (pv 1) (pa_cons pe_int pa_nil))) pe_int) pe_int (nomark _))))) (pss_cons (ps_set (i:=7) sc_ltext.nd rfl (Or.inl rfl) (pe_op op_mod (pe_call (ok_mixed T) (hr.mono (by decide)) rfl T.m_mixed T.f_mixed.kp T.b_mixed .nil pass0 (pa_cons (pv 1) (pa_cons pe_int pa_nil))) (pv 4)))
   (pss_one (ps_set (i:=6) sc_ltext.nd rfl (Or.inl rfl) (pe_op op_add_tx (pe_op op_add_tx (pe_slice sl_tx (pv 6) po_none (po_some (pv 7))) (pe_ix ix_tx (pv 2) (pe_op op_mod (pe_call (ok_mixed T) (hr.mono (by decide)) rfl T.m_mixed T.f_mixed.kp T.b_mixed .nil pass0 (pa_cons (pv 1) (pa_cons pe_int pa_nil))) (pe_callB (call_lenK (K:=K) rfl) rfl T.z_len bt_len (pa_cons (pv 2) pa_nil))) (fun _ _=>rfl))) (pe_slice sl_tx (pv 6) (po_some (pe_op op_add (pv 7) pe_int)) po_none))))) pss_nil)
   (pss_one (ps_ret (pv 6))))))))))))),?_⟩
  have sz:∀k:Nat,k≤3000→k≤sizeLine:=fun k h=>Nat.le_trans h (by rw[sizeLine_eq];decide)
  have szm:m.length≤sizeLine:=sz _ (by omega)
  have pm:(0:Int)<m.length:=by omega
  walk_at "rd"
  refine⟨_,_,rfl,fun r0 h0=>?_⟩
  walk_at "rd?"
  have g1:=Int.emod_nonneg r0 (show (13:Int)≠0 by decide)
  have g2:=Int.emod_lt_of_pos r0 (show (0:Int)<13 by decide)
  refine⟨by decide,hold_of ?_⟩
  generalize r0 % 13=a0 at g1 g2
  walk_at "rd"
  refine⟨_,_,rfl,fun r1 h1=>?_⟩
  walk_at "rd?"
  apply with_tailI (C:=fun n=>0≤n∧n≤12)
  ·intro tail
   refine⟨by decide,.inl ⟨rfl,_,rfl,ite2 (fun h=>?A) (fun h=>?B)⟩⟩
   case A=>
    refine⟨_,_,rfl,fun r2 h2=>?_⟩
    walk_at "rd?"
    refine⟨by decide,?_⟩
    have g3:=Int.emod_nonneg r2 (show (12+1:Int)≠0 by decide)
    have g4:=Int.emod_lt_of_pos r2 (show (0:Int)<12+1 by decide)
    generalize r2 % (12+1)=a2 at g3 g4
    exact tail a2 ⟨g3,by omega⟩
   case B=>exact tail a0 ⟨g1,by omega⟩
  ·rintro n ⟨n0,n12⟩
   refine hold_of ?_
   walk_at "rd"
   refine⟨_,_,rfl,fun r3 h3=>?_⟩
   walk_at "rd?"
   refine⟨by decide,ite2 (fun h=>?_) (fun h=>hold_of ?_)⟩
   ·refine⟨_,_,rfl,fun r4 h4'=>?_⟩
    walk_at "rd?"
    exact⟨by decide,.inl ⟨rfl,c,_,m,n,rfl,hm,h4,n0,by omega,fun w hw wm=>q w (by omega) wm⟩⟩
   ·walk_at "rd"
    refine⟨_,_,rfl,fun r4 h4'=>?_⟩
    walk_at "rd?"
    refine⟨by decide,.inl ⟨rfl,_,_,rfl,fun r5 h5=>?_⟩⟩
    walk_at "rd?"
    refine⟨by decide,c,_,m,_,rfl,hm,h4,by omega,by omega,fun bs hbs bm=>?_⟩
    walk_at "rd?"
    have bl:bs.length≤5:=by omega
    have rl:(repT bs n).length=n.toNat*bs.length:=repT_len bs n
    have rb:n.toNat*bs.length≤12*5:=Nat.mul_le_mul (by omega) bl
    have cl:(cut (repT bs n) none (some n)).length=n.toNat:=by
     have:n.toNat≤n.toNat*bs.length:=Nat.le_mul_of_pos_right _ (by omega)
     rw[cutTo _ n0,List.length_take,rl]
     omega
    have cm:∀x∈cut (repT bs n) none (some n),x∈m:=fun x hx=>bm x (repT_mem (mem_cut hx))
    refine⟨bs,n,rfl,rfl,n0,by omega,by omega,_,rfl,repT bs n,rfl,sz _ (by omega),hold_of ?_⟩
    generalize cut (repT bs n) none (some n)=tt at cl cm
    walk_at "rd"
    refine ite2 (fun h=>?_) (fun h=>iteF (q tt (by omega) cm))
    have hn:=of_decide_eq_true h
    refine⟨_,_,rfl,fun r6 h6=>?_⟩
    walk_at "rd?"
    refine⟨by decide,.inl ⟨rfl,_,rfl,ite2 (fun h=>?_) (fun h=>q tt (by omega) cm)⟩⟩
    refine⟨_,_,rfl,fun r7 h7=>?_⟩
    walk_at "rd?"
    have e1:=Int.emod_nonneg r7 (show n≠0 by omega)
    have e2:=Int.emod_lt_of_pos r7 hn
    refine⟨hn,_,rfl,tt,rfl,sz _ (by omega),?_⟩
    generalize r7 % n=at_ at e1 e2
    refine⟨_,_,rfl,fun r8 h8=>⟨_,_,rfl,lenTx (by omega),?_⟩⟩
    walk_at "rd?"
    obtain⟨cc,hcc,mc⟩:=atI_ok (xs:=m) (i:=r8 % m.length) (Int.emod_nonneg _ (by omega)) (Int.emod_lt_of_pos _ pm)
    have t1:=cutTo tt (i:=at_) e1
    have t2:=cutFrom tt (i:=at_+1) (by omega)
    have t3:(cut tt none (some at_)).length=at_.toNat:=by rw[t1,List.length_take];omega
    have t4:(cut tt (some (at_+1)) none).length=n.toNat-(at_.toNat+1):=by rw[t2,List.length_drop];omega
    refine⟨pm,m,_,cc,rfl,rfl,szm,hcc,sz _ (by omega),_,rfl,tt,rfl,sz _ (by omega),sz _ (by rw[List.length_append,List.length_singleton];omega),q _ (by rw[List.length_append,List.length_append,List.length_singleton];omega) fun x hx=>?_⟩
    rcases List.mem_append.mp hx with z | z
    ·rcases List.mem_append.mp z with z | z
     ·exact cm x (mem_cut z)
     ·rw[List.mem_singleton.mp z];exact mc
    ·exact cm x (mem_cut z)
theorem sc_Machine_need_room:FnScope ["self","room"] ["self","room"] (defScope s_Machine_need_room):=⟨rfl,rfl,rfl,by decide +kernel,rfl,by decide +kernel,by decide +kernel⟩
theorem ok_Machine_need_room (T:Txt K mg a):FnOk P w K mg base (CXr P w) 3 a.g_Machine_need_room a.e_Machine_need_room ["self","room"] (sp_Machine_need_room K a):=by
 refine T.fm_Machine_need_room.okX sc_Machine_need_room (fun vs H Q E h=>?_) (fun cdv A outer s H vs Q E hr h=>?_)
 ·obtain⟨_,_,_,_,_,rfl,_⟩:=h;rfl
 ·have hu64:=hr.units
  have hu1:=Nat.lt_of_le_of_lt (Nat.add_le_add_left (show 1≤64 by decide) _) hu64
  obtain⟨p,l,m,sp,v,rfl,hp,q⟩:=h
  refine⟨_,(pss_one (ps_if (pt_not (pt_val (pe_call (ok_is_within T) (hr.mono (by decide)) rfl T.m_is_within T.f_is_within.kp T.b_is_within .nil pass0 (pa_cons (pv 1) (pa_cons pe_int (pa_cons (pe_op op_sub (pe_callB (call_lenK (K:=K) rfl) rfl T.z_len bt_len (pa_cons (pe_fldK (K:=K) rfl (pv 0) rfl) pa_nil)) pe_int) pa_nil)))))) (pss_one (ps_raise cx_raises rfl (pe_xmake T.x_NoRoom T.i_NoRoom T.fn_NoRoom (ok_NoRoom_init T) (hr.mono (by decide)) T.b_NoRoom pass0 rfl T.m_NoRoom (pa_cons (pv 1) pa_nil)))) pss_nil)),?_⟩
  obtain⟨dx,qa,ys,h1,h2,h3⟩:=hp
  have e:=h3.len
  walk_at "rd"
  have up:XNr a E H v→(1≤1000∧MkI (spInit K a.c_NoRoom 1 (fs1 (Str.ofString "room"))) E0 a.c_NoRoom [v] H fun v H1=>∃e C d,v=.ref e∧H1 e=some (xo e C d)∧Xm K C∧E (.ref C) (some e) (upd H1 e (xr e C d))):=fun z=>
   ⟨by decide,MkI.of rfl fun e H2 s2 n2 x2=>by
    obtain⟨d,hd,hx⟩:=raise_any x2
    exact⟨e,_,d,rfl,hd,T.x_NoRoom,z e _ (same_upd3 s2 n2) hx⟩⟩
  refine⟨p,_,dx,_,_,rfl,h1,T.cl_Machine,T.n_Machine_own_rooms,fldsM_rooms,_,_,rfl,.inl ⟨_,.mk h2,rfl⟩,_,_,_,rfl,?_⟩
  rcases q with⟨i,rfl,hi,q⟩|⟨⟨i,rfl,hi⟩ | o,q⟩
  ·refine .inl ⟨_,rfl,_,rfl,?_⟩
   rw[decide_eq_true (show (0:Int)≤(i:Nat) by omega),decide_eq_true (show ((i:Nat):Int)≤(ys.length:Nat)-1 by omega)]
   exact iteF q
  ·refine .inl ⟨_,rfl,_,rfl,?_⟩
   have:(decide (0≤i)&&decide (i≤((ys.length:Nat):Int)-1))=false:=by
    rw[Bool.and_eq_false_iff]
    rcases hi with z | z
    ·exact .inl (decide_eq_false (by omega))
    ·exact .inr (decide_eq_false (by omega))
   rw[this]
   exact iteT (up q)
  ·exact .inr ⟨o,_,rfl,iteT (up q)⟩
theorem sc_Machine_ways:FnScope ["self","total","counts"] ["self"] (defScope s_Machine_ways):=⟨rfl,rfl,rfl,by decide +kernel,rfl,by decide +kernel,by decide +kernel⟩
theorem ok_Machine_ways (T:Txt K mg a):FnOk P w K mg base CX0 3 a.g_Machine_ways a.e_Machine_ways ["self"] (sp_Machine_ways K a):=by
 refine T.fm_Machine_ways.ok sc_Machine_ways (fun vs H Q E h=>?_) (fun cdv A outer s H vs Q E hr h=>?_)
 ·obtain⟨_,_,_,_,rfl,_⟩:=h;rfl
 ·have hu64:=hr.units
  have hu1:=Nat.lt_of_le_of_lt (Nat.add_le_add_left (show 1≤64 by decide) _) hu64
  obtain⟨p,l,m,sp,rfl,hp,ok,q⟩:=h
  refine⟨_,(pss_cons (ps_set (i:=1) sc_Machine_ways.nd rfl (Or.inl rfl) pe_int)
   (pss_hold (pss_cons (ps_set (i:=2) sc_Machine_ways.nd rfl (Or.inl rfl) (pe_disp (pps_cons pe_int pe_int pps_nil) rfl rfl (by simp) (by decide)))
   (pss_hold (pss_cons (ps_while PassesOwn.never (pt_cmpR op_gt (pe_callB call_lenD rfl T.z_len bt_len (pa_cons (pv 2) pa_nil)) pe_int (nomark _))
   (pss_cons (ps_aug (i:=1) sc_Machine_ways.nd rfl (Or.inl rfl) (pe_sumValues rfl rfl T.z_sum (pv 2)) ip_add)
   (pss_one (ps_set (i:=2) sc_Machine_ways.nd rfl (Or.inl rfl) (pe_meth (pv 0) T.cl_Machine T.me_Machine_counts_behind (ok_Machine_counts_behind T) (hr.mono (by decide)) T.b_Machine_counts_behind .nil pass0 (pa_cons (pv 2) pa_nil))))))
   (pss_hold (pss_one (ps_ret (pv 1))))))))),?_⟩
  have l40:=ok.l40
  obtain⟨dx,qa,ys,h1,h2,h3⟩:=id hp
  have M:=h3.msp
  walk_at "rd"
  refine hold_of ?_
  walk_at "rd"
  intro pc nc
  refine⟨upd_same,[(kInt 0,.int 1)],rfl,by decide,?_⟩
  have s1:Same H (upd (upd H pc (.dK [])) pc (.dK (mergeK [] [(kInt 0,.int 1)]))):=same_upd3 (same_upd nc) nc
  have b1:upd (upd H pc (.dK [])) pc (.dK (mergeK [] [(kInt 0,.int 1)])) pc=some (.dK (CD l sp [[]] [0])):=by rw[upd_same,CD_zero h3.first];rfl
  generalize upd (upd H pc (.dK [])) pc (.dK (mergeK [] [(kInt 0,.int 1)]))=H1 at s1 b1
  walk_at "rd?"
  refine hold_of ?_
  walk_at "rd"
  refine WhileRun.by (fun σ H'=>∃(pc:Addr) (W:List (List Nat)) (js:List Nat) (k:Nat) (Tt:List (List Nat)),σ=[some (.ref p),some (.int (Tt.length:Nat)),some (.ref pc)]∧Same H H'∧H' pc=some (.dK (CD l sp W js))∧CInv l sp W js∧WAll l k W∧TAll l k Tt) (fun σ H'=>muAt 1 σ) ⟨pc,[[]],[0],0,[],rfl,s1,b1,CInv.zero h3.first,WAll.zero l,TAll.zero l⟩ ?_
  rintro σ H2 ⟨pc,W,js,k,Tt,rfl,s2,b2,c2,w2,t2⟩
  refine⟨decide (0<js.length),fun Q' hq=>?_,fun H3 s3=>?_⟩
  ·walk_at "rd"
   refine⟨pc,_,rfl,b2,?_⟩
   rw[CD_len]
   have e:decide ((0:Int)<((js.length:Nat):Int))=decide (0<js.length):=by
    rw[Bool.eq_iff_iff,decide_eq_true_iff,decide_eq_true_iff]
    omega
   rw[e]
   exact hq H2 (Same.refl _)
  ·have S3:=s2.trans s3
   have b3:=s3 _ _ b2
   refine ite2 (fun h=>?_) (fun h=>?_)
   ·have hlt:=of_decide_eq_true h
    have wn:0<W.length:=by
     obtain⟨w0,hw0,_⟩:=c2.some_ _ (List.getElem_mem hlt)
     exact List.length_pos_of_mem hw0
    have t3:=t2.step w2
    have tl:=TAll.len t3 l40
    rw[List.length_append]at tl
    have hv:(CD l sp W js).map (·.2)=(js.map fun j=>(((inR l sp W j).length:Nat):Int)).map V.int:=by
     unfold CD
     rw[List.map_map,List.map_map]
     rfl
    walk_at "rd"
    refine⟨pc,_,_,rfl,b3,hv,?_⟩
    rw[CInv.sum M.nd js W c2.nd c2.cov]
    refine⟨_,_,rfl,rfl,?_⟩
    walk_at "rd?"
    refine⟨p,dx,_,rfl,S3 _ _ h1,fldsM_no (by decide +kernel) (by decide +kernel),p,pc,l,m,sp,W,js,k,rfl,hp.same S3,ok,b3,c2,w2,fun pq W4 js4 H4 s4 n4 b4 c4 w4=>?_⟩
    refine⟨⟨pq,W4,js4,k+1,Tt++W,?_,S3.trans s4,b4,c4,w4,t3⟩,?_⟩
    ·rw[List.length_append,show (((Tt.length+W.length:Nat):Nat):Int)=((Tt.length:Nat):Int)+((W.length:Nat):Int) by omega]
    ·show 1682-(((Tt.length:Nat):Int)+((W.length:Nat):Int)).toNat<1682-((Tt.length:Nat):Int).toNat
     omega
   ·have hge:¬0<js.length:=of_decide_eq_false (Bool.eq_false_iff.mpr h)
    have ej:js=[]:=List.eq_nil_of_length_eq_zero (by omega)
    have ew:W=[]:=by
     cases W with
     | nil=>rfl
     | cons w W'=>
      obtain⟨j,hj,_⟩:=c2.cov w List.mem_cons_self
      rw[ej]at hj;cases hj
    rw[ew]at w2
    walk_at "rd?"
    refine hold_of ?_
    walk_at "rd"
    rw[t2.end_ w2]
    exact q H3 S3
theorem sc_need_letter:FnScope ["thing","kinds"] ["thing","kinds"] (defScope s_need_letter):=⟨rfl,rfl,rfl,by decide +kernel,rfl,by decide +kernel,by decide +kernel⟩
theorem ok_need_letter (T:Txt K mg a):FnOk P w K mg base (CXr P w) 4 a.f_need_letter a.d_need_letter ["thing","kinds"] (sp_need_letter K a):=by
 refine T.f_need_letter.okX sc_need_letter (fun vs H Q E h=>?_) (fun cdv A outer s H vs Q E hr h=>?_)
 ·obtain⟨_,_,rfl,_⟩:=h;rfl
 ·have hu64:=hr.units
  have hu1:=Nat.lt_of_le_of_lt (Nat.add_le_add_left (show 1≤64 by decide) _) hu64
  obtain⟨v,m,rfl,q⟩:=h
  refine⟨_,(pss_one (ps_if (pt_not (pt_val (pe_call (ok_is_letter T) (hr.mono (by decide)) rfl T.m_is_letter T.f_is_letter.kp T.b_is_letter .nil pass0 (pa_cons (pv 0) (pa_cons (pv 1) pa_nil))))) (pss_one (ps_raise cx_raises rfl (pe_xmake T.x_NoWord T.i_NoWord T.fn_NoWord (ok_NoWord_init T) (hr.mono (by decide)) T.b_NoWord pass0 rfl T.m_NoWord (pa_cons (pv 0) pa_nil)))) pss_nil)),?_⟩
  walk_at "rd"
  have up:∀H1,Same H H1→XNw a E H v→(1≤1000∧MkI (spInit K a.c_NoWord 1 (fs1 (Str.ofString "word"))) E0 a.c_NoWord [v] H1 fun v H1=>∃e C d,v=.ref e∧H1 e=some (xo e C d)∧Xm K C∧E (.ref C) (some e) (upd H1 e (xr e C d))):=fun H1 s1 z=>
   ⟨by decide,MkI.of rfl fun e H2 s2 n2 x2=>by
    obtain⟨d,hd,hx⟩:=raise_any x2
    exact⟨e,_,d,rfl,hd,T.x_NoWord,z e _ (s1.trans (same_upd3 s2 n2)) hx⟩⟩
  rcases q with⟨l,rfl,hl,hk,q⟩|⟨⟨l,rfl,hl,hk⟩ | o,q⟩
  ·exact⟨_,_,rfl,.inl ⟨l,rfl,hl,fun H2 s2=>⟨_,rfl,by rw[hk];exact iteF (q H2 s2)⟩⟩⟩
  ·exact⟨_,_,rfl,.inl ⟨l,rfl,hl,fun H2 s2=>⟨_,rfl,by rw[hk];exact iteT (up H2 s2 q)⟩⟩⟩
  ·exact⟨_,_,rfl,.inr ⟨o,_,rfl,iteT (up H (Same.refl _) q)⟩⟩
theorem sc_Machine_init:FnScope ["self","text","kinds"] ["self","text","kinds"] (defScope s_Machine_init):=⟨rfl,rfl,rfl,by decide +kernel,rfl,by decide +kernel,by decide +kernel⟩
theorem ok_Machine_init (T:Txt K mg a):FnOk P w K mg base (CXr P w) 4 a.g_Machine_init a.e_Machine_init ["self","text","kinds"] (sp_Machine_init K a):=by
 refine T.fm_Machine_init.okX sc_Machine_init (fun vs H Q E h=>?_) (fun cdv A outer s H vs Q E hr h=>?_)
 ·obtain⟨_,_,_,_,rfl,_⟩:=h;rfl
 ·have hu64:=hr.units
  have hu1:=Nat.lt_of_le_of_lt (Nat.add_le_add_left (show 1≤64 by decide) _) hu64
  obtain⟨p,dx,v,u,rfl,hp,q⟩:=h
  refine⟨_,(pss_cons (ps_expr (pe_call (ok_need_kinds T) (hr.mono (by decide)) rfl T.m_need_kinds T.f_need_kinds.kp T.b_need_kinds .nil pass_on (pa_cons (pv 2) pa_nil)))
   (pss_cons (ps_expr (pe_call (ok_need_word T) (hr.mono (by decide)) rfl T.m_need_word T.f_need_word.kp T.b_need_word .nil pass_on (pa_cons (pv 1) (pa_cons (pv 2) (pa_cons (pe_globI rfl T.c_MOST_IN_STRIP) pa_nil)))))
   (pss_cons (ps_fld (pv 0) (pv 2) rfl)
   (pss_one (ps_fld (pv 0) (pe_call (ok_rooms_of T) (hr.mono (by decide)) rfl T.m_rooms_of T.f_rooms_of.kp T.b_rooms_of .nil pass0 (pa_cons (pv 1) (pa_cons (pv 2) pa_nil))) rfl))))),?_⟩
  walk_at "rd"
  rcases q with⟨l,m,rfl,rfl,ok,q⟩|⟨bk,x⟩|⟨m,rfl,kok,bw,x⟩
  ·have m4:=ok.m4
   have l40:=ok.l40
   refine⟨_,rfl,.inl ⟨m,rfl,by omega,ok.k,fun H1 s1=>?_⟩⟩
   walk_at "rd?"
   refine⟨_,m,40,rfl,.inl ⟨l,rfl,by omega,isw_ok ok,fun H2 s2=>?_⟩⟩
   walk_at "rd?"
   have hp2:=(s1.trans s2) _ _ hp
   refine⟨p,_,dx,_,rfl,hp2,T.cl_Machine,T.n_Machine_own_kinds,by show (0:Nat)<1000;decide,l,m,rfl,l40,m4,ok.mem,fun pq sp ys H3 s3 n3 h3 mo=>?_⟩
   have hp3:=s3 _ _ (upd_same (H:=H2) (a:=p) (o:=.ins a.c_Machine dx (putF "own_kinds" (tx m) [])))
   have ne:pq≠p:=fun z=>by rw[z,hp3]at h3;cases h3
   refine⟨p,_,dx,_,rfl,hp3,T.cl_Machine,T.n_Machine_own_rooms,?_,q sp _ ⟨dx,pq,ys,upd_same,by rw[upd_ne ne];exact h3,MachOk.upd mo hp3⟩ fun b o hb nb=>?_⟩
   ·show (1:Nat)<1000
    decide
   ·rw[upd_ne nb]
    exact s3 _ _ (by rw[upd_ne nb];exact(s1.trans s2) _ _ hb)
  ·exact⟨_,rfl,.inr ⟨bk,x⟩⟩
  ·have m4:=kok.m4
   refine⟨_,rfl,.inl ⟨m,rfl,by omega,kok.k,fun H1 s1=>?_⟩⟩
   walk_at "rd?"
   exact⟨_,m,40,rfl,.inr ⟨bw.same s1,x.same s1⟩⟩
theorem sc_Machine_word_to:FnScope ["self","room"] ["self","room"] (defScope s_Machine_word_to):=⟨rfl,rfl,rfl,by decide +kernel,rfl,by decide +kernel,by decide +kernel⟩
theorem ok_Machine_word_to (T:Txt K mg a):FnOk P w K mg base (CXr P w) 4 a.g_Machine_word_to a.e_Machine_word_to ["self","room"] (sp_Machine_word_to K a):=by
 refine T.fm_Machine_word_to.okX sc_Machine_word_to (fun vs H Q E h=>?_) (fun cdv A outer s H vs Q E hr h=>?_)
 ·obtain⟨_,_,_,_,_,rfl,_⟩:=h;rfl
 ·have hu64:=hr.units
  have hu1:=Nat.lt_of_le_of_lt (Nat.add_le_add_left (show 1≤64 by decide) _) hu64
  obtain⟨p,l,m,sp,v,rfl,hp,br,q⟩:=h
  refine⟨_,(pss_cons (ps_expr (pe_meth (pv 0) T.cl_Machine T.me_Machine_need_room (ok_Machine_need_room T) (hr.mono (by decide)) T.b_Machine_need_room .nil pass_on (pa_cons (pv 1) pa_nil)))
   (pss_one (ps_ret (pe_ix (ix_tupK (K:=K) rfl) (pe_ix (ix_listK (K:=K) rfl) (pe_fldK (K:=K) rfl (pv 0) rfl) (pv 1) (fun _ _=>rfl)) pe_int (fun _ _=>rfl))))),?_⟩
  obtain⟨dx,qa,ys,h1,h2,h3⟩:=id hp
  walk_at "rd"
  exact⟨p,dx,_,rfl,h1,fldsM_no (by decide +kernel) (by decide +kernel),p,l,m,sp,_,rfl,hp,.inr ⟨br,q⟩⟩
theorem sc_Machine_parting:FnScope ["self","room","other","tried","seen","at","letter","word","pair"] ["self","room","other"] (defScope s_Machine_parting):=⟨rfl,rfl,rfl,by decide +kernel,rfl,by decide +kernel,by decide +kernel⟩
theorem ok_Machine_parting (T:Txt K mg a):FnOk P w K mg base (CXr P w) 4 a.g_Machine_parting a.e_Machine_parting ["self","room","other"] (sp_Machine_parting K a):=by
 refine T.fm_Machine_parting.okX sc_Machine_parting (fun vs H Q E h=>?_) (fun cdv A outer s H vs Q E hr h=>?_)
 ·obtain⟨_,_,_,_,_,_,rfl,_⟩:=h;rfl
 ·have hu64:=hr.units
  have hu1:=Nat.lt_of_le_of_lt (Nat.add_le_add_left (show 1≤64 by decide) _) hu64
  obtain⟨p,l,m,sp,v,u,rfl,hp,q⟩:=h
  refine⟨_,(pss_cons (ps_expr (pe_meth (pv 0) T.cl_Machine T.me_Machine_need_room (ok_Machine_need_room T) (hr.mono (by decide)) T.b_Machine_need_room .nil pass_on (pa_cons (pv 1) pa_nil)))
   (pss_cons (ps_expr (pe_meth (pv 0) T.cl_Machine T.me_Machine_need_room (ok_Machine_need_room T) (hr.mono (by decide)) T.b_Machine_need_room .nil pass_on (pa_cons (pv 2) pa_nil)))
   (pss_hold (pss_cons (ps_set (i:=3) sc_Machine_parting.nd rfl (Or.inl rfl) (pe_lst (pa_cons (pe_tup (pa_cons (pe_strT (l:=[]) (by decide +kernel)) (pa_cons (pv 1) (pa_cons (pv 2) pa_nil)))) pa_nil)))
   (pss_cons (ps_set (i:=4) sc_Machine_parting.nd rfl (Or.inl rfl) (pe_dispT1 hu1 (pe_tup (pa_cons (pv 1) (pa_cons (pv 2) pa_nil))) pe_bl))
   (pss_hold (pss_cons (ps_set (i:=5) sc_Machine_parting.nd rfl (Or.inl rfl) pe_int)
   (pss_cons (ps_while own_lv (pt_cmpR op_lt (pv 5) (pe_callB (call_lenK (K:=K) rfl) rfl T.z_len bt_len (pa_cons (pv 3) pa_nil)) (nomark _))
   (pss_cons (ps_for own_lv rfl (pi_text (pe_fldK (K:=K) rfl (pv 0) rfl)) (pg_name (i:=6) sc_Machine_parting.nd rfl (Or.inl rfl))
   (pss_cons (ps_set (i:=7) sc_Machine_parting.nd rfl (Or.inl rfl) (pe_op op_add_tx (pe_ix (ix_tupK (K:=K) rfl) (pe_ix (ix_listK (K:=K) rfl) (pv 3) (pv 5) (fun _ _=>rfl)) pe_int (fun _ _=>rfl)) (pv 6)))
   (pss_hold (pss_cons (ps_set (i:=8) sc_Machine_parting.nd rfl (Or.inl rfl) (pe_tup (pa_cons (pe_meth (pv 0) T.cl_Machine T.me_Machine_led (ok_Machine_led T) (hr.mono (by decide)) T.b_Machine_led .nil pass0 (pa_cons (pe_ix (ix_tupK (K:=K) rfl) (pe_ix (ix_listK (K:=K) rfl) (pv 3) (pv 5) (fun _ _=>rfl)) pe_int (fun _ _=>rfl)) (pa_cons (pv 6) pa_nil))) (pa_cons (pe_meth (pv 0) T.cl_Machine T.me_Machine_led (ok_Machine_led T) (hr.mono (by decide)) T.b_Machine_led .nil pass0 (pa_cons (pe_ix (ix_tupK (K:=K) rfl) (pe_ix (ix_listK (K:=K) rfl) (pv 3) (pv 5) (fun _ _=>rfl)) pe_int (fun _ _=>rfl)) (pa_cons (pv 6) pa_nil))) pa_nil))))
   (pss_hold (pss_cons (ps_if (pt_cmpR (op_neDK (K:=K) rfl hu64) (pe_cmpR op_isN (pe_ix (ix_tupK (K:=K) rfl) (pv 8) pe_int (fun _ _=>rfl)) pe_non (nomark _)) (pe_cmpR op_isN (pe_ix (ix_tupK (K:=K) rfl) (pv 8) pe_int (fun _ _=>rfl)) pe_non (nomark _)) (nomark _)) (pss_one (ps_ret (pv 7))) pss_nil)
   (pss_hold (pss_one (ps_if (PW.pt (pw_and (pt_cmpR op_notN (pe_ix (ix_tupK (K:=K) rfl) (pv 8) pe_int (fun _ _=>rfl)) pe_non (nomark _)) (pw_and1 (pt_cmp (pc_dnotin hu1 (pv 8) (pv 4)))))) (pss_cons (ps_dput hu1 (pv 4) (pv 8) pe_bl rfl)
   (pss_one (ps_expr (pe_bm PySem.F.plainAttrs_list PySem.F.slot_list_append PySem.F.type_list_append mt_append (pv 3) (pa_cons (pe_tup (pa_cons (pv 7) (pa_cons (pe_ix (ix_tupK (K:=K) rfl) (pv 8) pe_int (fun _ _=>rfl)) (pa_cons (pe_ix (ix_tupK (K:=K) rfl) (pv 8) pe_int (fun _ _=>rfl)) pa_nil)))) pa_nil))))) pss_nil)))))))))
   (pss_hold (pss_one (ps_aug (i:=5) sc_Machine_parting.nd rfl (Or.inl rfl) pe_int ip_add)))))
   (pss_hold (pss_one (ps_ret pe_non))))))))))),?_⟩
  obtain⟨dx,qa,ys,h1,h2,h3⟩:=id hp
  walk_at "rd"
  rcases q with⟨br,x⟩|⟨i,rfl,hi,bl,x⟩
  ·exact⟨p,dx,_,rfl,h1,fldsM_no (by decide +kernel) (by decide +kernel),p,l,m,sp,_,rfl,hp,.inr ⟨br,x⟩⟩
  ·refine⟨p,dx,_,rfl,h1,fldsM_no (by decide +kernel) (by decide +kernel),p,l,m,sp,_,rfl,hp,.inl ⟨i,rfl,hi,?_⟩⟩
   walk_at "rd?"
   exact⟨p,dx,_,rfl,h1,fldsM_no (by decide +kernel) (by decide +kernel),p,l,m,sp,_,rfl,hp,.inr ⟨bl,x⟩⟩
theorem sc_Machine_room_of:FnScope ["self","word","room","letter"] ["self","word"] (defScope s_Machine_room_of):=⟨rfl,rfl,rfl,by decide +kernel,rfl,by decide +kernel,by decide +kernel⟩
theorem ok_Machine_room_of (T:Txt K mg a):FnOk P w K mg base (CXr P w) 4 a.g_Machine_room_of a.e_Machine_room_of ["self","word"] (sp_Machine_room_of K a):=by
 refine T.fm_Machine_room_of.okX sc_Machine_room_of (fun vs H Q E h=>?_) (fun cdv A outer s H vs Q E hr h=>?_)
 ·obtain⟨_,_,_,_,_,rfl,_⟩:=h;rfl
 ·have hu64:=hr.units
  have hu1:=Nat.lt_of_le_of_lt (Nat.add_le_add_left (show 1≤64 by decide) _) hu64
  obtain⟨p,l,m,sp,v,rfl,hp,q⟩:=h
  refine⟨_,(pss_cons (ps_expr (pe_call (ok_need_word T) (hr.mono (by decide)) rfl T.m_need_word T.f_need_word.kp T.b_need_word .nil pass_on (pa_cons (pv 1) (pa_cons (pe_fldK (K:=K) rfl (pv 0) rfl) (pa_cons (pe_globI rfl T.c_MOST_ASKED) pa_nil)))))
   (pss_hold (pss_cons (ps_set (i:=2) sc_Machine_room_of.nd rfl (Or.inl rfl) pe_int)
   (pss_cons (ps_for own_lv rfl (pi_text (pv 1)) (pg_name (i:=3) sc_Machine_room_of.nd rfl (Or.inl rfl))
   (pss_cons (ps_set (i:=2) sc_Machine_room_of.nd rfl (Or.inl rfl) (pe_meth (pv 0) T.cl_Machine T.me_Machine_led (ok_Machine_led T) (hr.mono (by decide)) T.b_Machine_led .nil pass0 (pa_cons (pv 2) (pa_cons (pv 3) pa_nil))))
   (pss_one (ps_if (pt_cmpR op_isN (pv 2) pe_non (nomark _)) (pss_one (ps_ret pe_non)) pss_nil))))
   (pss_hold (pss_one (ps_ret (pv 2)))))))),?_⟩
  obtain⟨dx,qa,ys,h1,h2,h3⟩:=id hp
  walk_at "rd"
  rcases q with⟨w_,rfl,hw,hm,q⟩|⟨bw,x⟩
  ·refine⟨p,_,dx,_,_,rfl,h1,T.cl_Machine,T.n_Machine_own_kinds,fldsM_kinds,_,m,60,rfl,.inl ⟨w_,rfl,by omega,isw_yes (by omega) hm,fun H1 s1=>?_⟩⟩
   walk_at "rd?"
   refine hold_of ?_
   walk_at "rd"
   refine⟨w_,rfl,ForRun.text (fun i σ H'=>H'=H1∧∃(j:Nat) (v3:Option V),σ=[some (.ref p),some (tx w_),some (.int ((j:Nat):Int)),v3]∧sp[j]?=some (spotsAt l (w_.take i))∧Inf (w_.take i) l) ⟨rfl,0,_,rfl,by rw[List.take_zero,spots_nil];exact h3.first,Inf.nil l⟩ ?_ ?_⟩
   ·rintro i c σ H2 hc ⟨rfl,j,v3,rfl,hj,hI⟩
    have hcm:=hm c (List.mem_of_getElem? hc)
    have et:w_.take (i+1)=w_.take i++[c]:=take_next hc
    walk_at "rd"
    refine⟨p,dx,_,rfl,s1 _ _ h1,fldsM_no (by decide +kernel) (by decide +kernel),p,l,m,sp,j,_,c,rfl,hp.same s1,hj,hcm,fun o ho=>?_⟩
    rcases ho with⟨hb,rfl⟩|⟨hb,j2,hj2,rfl⟩
    ·refine⟨by trivial,?_⟩
     rw[Option.getD_none,decide_eq_true rfl]
     refine iteT (q .non _ s1 (.inl ⟨fun hInf=>?_,rfl⟩))
     have:=spots_ne.mpr (inf_take hInf (i+1))
     rw[et,spots_snoc]at this
     exact this hb
    ·refine⟨by trivial,?_⟩
     rw[Option.getD_some,decide_eq_false (fun z=>by cases z)]
     exact iteF ⟨by trivial,j2,_,rfl,by rw[et,spots_snoc];exact hj2,by rw[et];exact spots_ne.mp (by rw[spots_snoc];exact hb)⟩
   ·rintro σ H2 ⟨rfl,j,v3,rfl,hj,hI⟩
    rw[List.take_length]at hj hI
    walk_at "rd?"
    refine hold_of ?_
    walk_at "rd"
    exact q _ _ s1 (.inr ⟨hI,j,hj,rfl⟩)
  ·exact⟨p,_,dx,_,_,rfl,h1,T.cl_Machine,T.n_Machine_own_kinds,fldsM_kinds,_,m,60,rfl,.inr ⟨bw,x⟩⟩
theorem sc_Machine_way:FnScope ["self","room","letter"] ["self","room","letter"] (defScope s_Machine_way):=⟨rfl,rfl,rfl,by decide +kernel,rfl,by decide +kernel,by decide +kernel⟩
theorem ok_Machine_way (T:Txt K mg a):FnOk P w K mg base (CXr P w) 5 a.g_Machine_way a.e_Machine_way ["self","room","letter"] (sp_Machine_way K a):=by
 refine T.fm_Machine_way.okX sc_Machine_way (fun vs H Q E h=>?_) (fun cdv A outer s H vs Q E hr h=>?_)
 ·obtain⟨_,_,_,_,_,_,rfl,_⟩:=h;rfl
 ·have hu64:=hr.units
  have hu1:=Nat.lt_of_le_of_lt (Nat.add_le_add_left (show 1≤64 by decide) _) hu64
  obtain⟨p,l,m,sp,v,u,rfl,hp,q⟩:=h
  refine⟨_,(pss_cons (ps_expr (pe_meth (pv 0) T.cl_Machine T.me_Machine_need_room (ok_Machine_need_room T) (hr.mono (by decide)) T.b_Machine_need_room .nil pass_on (pa_cons (pv 1) pa_nil)))
   (pss_cons (ps_expr (pe_call (ok_need_letter T) (hr.mono (by decide)) rfl T.m_need_letter T.f_need_letter.kp T.b_need_letter .nil pass_on (pa_cons (pv 2) (pa_cons (pe_fldK (K:=K) rfl (pv 0) rfl) pa_nil))))
   (pss_one (ps_ret (pe_meth (pv 0) T.cl_Machine T.me_Machine_led (ok_Machine_led T) (hr.mono (by decide)) T.b_Machine_led .nil pass0 (pa_cons (pv 1) (pa_cons (pv 2) pa_nil))))))),?_⟩
  obtain⟨dx,qa,ys,h1,h2,h3⟩:=id hp
  walk_at "rd"
  rcases q with⟨br,x⟩|⟨i,rfl,hi,bl,x⟩
  ·exact⟨p,dx,_,rfl,h1,fldsM_no (by decide +kernel) (by decide +kernel),p,l,m,sp,_,rfl,hp,.inr ⟨br,x⟩⟩
  ·refine⟨p,dx,_,rfl,h1,fldsM_no (by decide +kernel) (by decide +kernel),p,l,m,sp,_,rfl,hp,.inl ⟨i,rfl,hi,?_⟩⟩
   walk_at "rd?"
   exact⟨p,_,dx,_,_,rfl,h1,T.cl_Machine,T.n_Machine_own_kinds,fldsM_kinds,_,m,rfl,.inr ⟨bl,x⟩⟩
theorem sc_made:FnScope ["_law_text_here","_law_kinds_here","_law_found","e"] ["_law_text_here","_law_kinds_here"] (defScope s_made):=⟨rfl,rfl,rfl,by decide +kernel,rfl,by decide +kernel,by decide +kernel⟩
theorem ok_made (T:Txt K mg a):FnOk P w K mg base CX0 6 a.f_made a.d_made ["_law_text_here","_law_kinds_here"] (sp_made K a):=by
 refine T.f_made.ok sc_made (fun vs H Q E h=>?_) (fun cdv A outer s H vs Q E hr h=>?_)
 ·obtain⟨_,_,rfl,_⟩:=h;rfl
 ·have hu64:=hr.units
  have hu1:=Nat.lt_of_le_of_lt (Nat.add_le_add_left (show 1≤64 by decide) _) hu64
  obtain⟨v,u,rfl,q⟩:=h
  refine⟨_,(pss_cons (ps_set (i:=2) sc_made.nd rfl (Or.inl rfl) pe_non)
   (pss_cons (ps_try rfl rfl (pssx_one (psx_expr (pex_make T.mk_Machine (ok_Machine_init T) (hr.mono (by decide)) rfl T.m_Machine T.b_Machine_init .nil (pa_cons (pv 0) (pa_cons (pv 1) pa_nil))))) (ph_as (i:=3) (fun _=>hr.hd) rfl T.m_LackError sc_made.nd rfl rfl (fun _=>(pss_one (ps_set (i:=2) sc_made.nd rfl (Or.inl rfl) (pv 3)))) ph_nil))
   (pss_one (ps_ret (pe_call (ok_told T) (hr.mono (by decide)) rfl T.m_told T.f_told.kp T.b_told .nil pass0 (pa_cons (pv 2) pa_nil)))))),?_⟩
  walk_at "rd"
  intro pr dr npr ndr ner
  have sm:Same H (upd (upd H dr (.own pr)) pr (.ins a.c_Machine dr [])):=fun b o e=>by rw[upd_ne (ne_of_none e npr),upd_ne (ne_of_none e ndr)];exact e
  have xk:=exm_ref (b:=true) T.k_NoKinds T.k_LackError (by simp[List.contains_cons]) (by simp[List.contains_cons])
  have xw:=exm_ref (b:=true) T.k_NoWord T.k_LackError (by simp[List.contains_cons]) (by simp[List.contains_cons])
  rcases q with⟨bk,q⟩|⟨m,rfl,kok,bw,q⟩
  ·exact⟨pr,dr,_,_,rfl,upd_same,.inr (.inl ⟨bk.same sm,fun e H2 s2 x2=>⟨e,_,rfl,rfl,true,xk,iteT ⟨e,rfl,.inl ⟨x2,fun t H3 s3 h3=>q t H3 (sm.trans (s2.trans s3)) h3⟩⟩⟩⟩)⟩
  ·exact⟨pr,dr,_,_,rfl,upd_same,.inr (.inr ⟨m,rfl,kok,bw.same sm,fun e H2 s2 x2=>⟨e,_,rfl,rfl,true,xw,iteT ⟨e,rfl,.inr (.inl ⟨v,x2,fun t H3 s3 h3=>q t H3 (sm.trans (s2.trans s3)) h3⟩)⟩⟩⟩)⟩
theorem sc_asked:FnScope ["_law_machine","_law_way","_law_one","_law_other","_law_found","e"] ["_law_machine","_law_way","_law_one","_law_other"] (defScope s_asked):=⟨rfl,rfl,rfl,by decide +kernel,rfl,by decide +kernel,by decide +kernel⟩
theorem ok_asked (T:Txt K mg a):FnOk P w K mg base CX0 6 a.f_asked a.d_asked ["_law_machine","_law_way","_law_one","_law_other"] (sp_asked K a):=by
 refine T.f_asked.ok sc_asked (fun vs H Q E h=>?_) (fun cdv A outer s H vs Q E hr h=>?_)
 ·obtain⟨_,_,_,_,_,_,_,rfl,_⟩:=h;rfl
 ·have hu64:=hr.units
  have hu1:=Nat.lt_of_le_of_lt (Nat.add_le_add_left (show 1≤64 by decide) _) hu64
  obtain⟨p,l,m,sp,k,v,u,rfl,hp,q⟩:=h
  refine⟨_,(pss_cons (ps_set (i:=4) sc_asked.nd rfl (Or.inl rfl) pe_non)
   (pss_cons (ps_try rfl rfl (pssx_one (psx_if (pt_cmpR (op_eqDK (K:=K) rfl hu64) (pv 1) pe_int (nomark _)) (pssx_one (psx_expr (pex_meth (pv 0) T.cl_Machine T.me_Machine_way (ok_Machine_way T) (hr.mono (by decide)) T.b_Machine_way .nil (pa_cons (pv 2) (pa_cons (pv 3) pa_nil))))) (pssx_one (psx_if (pt_cmpR (op_eqDK (K:=K) rfl hu64) (pv 1) pe_int (nomark _)) (pssx_one (psx_expr (pex_meth (pv 0) T.cl_Machine T.me_Machine_word_to (ok_Machine_word_to T) (hr.mono (by decide)) T.b_Machine_word_to .nil (pa_cons (pv 2) pa_nil)))) (pssx_one (psx_if (pt_cmpR (op_eqDK (K:=K) rfl hu64) (pv 1) pe_int (nomark _)) (pssx_one (psx_expr (pex_meth (pv 0) T.cl_Machine T.me_Machine_parting (ok_Machine_parting T) (hr.mono (by decide)) T.b_Machine_parting .nil (pa_cons (pv 2) (pa_cons (pv 3) pa_nil))))) (pssx_one (psx_expr (pex_meth (pv 0) T.cl_Machine T.me_Machine_room_of (ok_Machine_room_of T) (hr.mono (by decide)) T.b_Machine_room_of .nil (pa_cons (pv 2) pa_nil)))))))))) (ph_as (i:=5) (fun _=>hr.hd) rfl T.m_LackError sc_asked.nd rfl rfl (fun _=>(pss_one (ps_set (i:=4) sc_asked.nd rfl (Or.inl rfl) (pv 5)))) ph_nil))
   (pss_one (ps_ret (pe_call (ok_told T) (hr.mono (by decide)) rfl T.m_told T.f_told.kp T.b_told .nil pass0 (pa_cons (pv 4) pa_nil)))))),?_⟩
  obtain⟨dx,qa,ys,h1,h2,h3⟩:=id hp
  have xw:=exm_ref (b:=true) T.k_NoWord T.k_LackError (by simp[List.contains_cons]) (by simp[List.contains_cons])
  have xr:=exm_ref (b:=true) T.k_NoRoom T.k_LackError (by simp[List.contains_cons]) (by simp[List.contains_cons])
  have uw:∀z,(∀t H2,Same H H2→H2 t=some (.tup [tx [119,111,114,100],z])→Q (.ref t) H2)→XNw a (fun cls oe H'=>∃e C,cls=Value.ref C∧oe=some e∧∃b,PySem.W.exmOne K (Value.ref C) (Value.ref a.c_LackError)=some b∧if b=true then sp_told K a [V.ref e] H' Q E0 else False) H z:=fun z q e H2 s2 x2=>⟨e,_,rfl,rfl,true,xw,iteT ⟨e,rfl,.inr (.inl ⟨z,x2,fun t H3 s3 h3=>q t H3 (s2.trans s3) h3⟩)⟩⟩
  have ur:∀z,(∀t H2,Same H H2→H2 t=some (.tup [tx [114,111,111,109],z])→Q (.ref t) H2)→XNr a (fun cls oe H'=>∃e C,cls=Value.ref C∧oe=some e∧∃b,PySem.W.exmOne K (Value.ref C) (Value.ref a.c_LackError)=some b∧if b=true then sp_told K a [V.ref e] H' Q E0 else False) H z:=fun z q e H2 s2 x2=>⟨e,_,rfl,rfl,true,xr,iteT ⟨e,rfl,.inr (.inr ⟨z,x2,fun t H3 s3 h3=>q t H3 (s2.trans s3) h3⟩)⟩⟩
  have eqI:∀ {x y:Int} {Q':VK},Q' (.bl (decide (x=y))) H→rEqD K false (.int x) (.int y) H Q':=fun {x y Q'} h=>.inl ⟨rfl,by rw[if_neg Bool.false_ne_true];simpa using h⟩
  walk_at "rd"
  rcases q with⟨hk,br,q⟩|⟨rfl,i,rfl,hi,bl,q⟩|⟨rfl,i,rfl,hi,br,q⟩|⟨rfl,bw,q⟩
  ·rcases hk with rfl | rfl | rfl
   ·exact eqI ⟨true,rfl,iteT ⟨p,dx,_,rfl,h1,fldsM_no (by decide +kernel) (by decide +kernel),p,l,m,sp,v,u,rfl,hp,.inl ⟨br,ur v q⟩⟩⟩
   ·exact eqI ⟨false,rfl,iteF (eqI ⟨true,rfl,iteT ⟨p,dx,_,rfl,h1,fldsM_no (by decide +kernel) (by decide +kernel),p,l,m,sp,v,rfl,hp,br,ur v q⟩⟩)⟩
   ·exact eqI ⟨false,rfl,iteF (eqI ⟨false,rfl,iteF (eqI ⟨true,rfl,iteT ⟨p,dx,_,rfl,h1,fldsM_no (by decide +kernel) (by decide +kernel),p,l,m,sp,v,u,rfl,hp,.inl ⟨br,ur v q⟩⟩⟩)⟩)⟩
  ·exact eqI ⟨true,rfl,iteT ⟨p,dx,_,rfl,h1,fldsM_no (by decide +kernel) (by decide +kernel),p,l,m,sp,_,u,rfl,hp,.inr ⟨i,rfl,hi,bl,uw u q⟩⟩⟩
  ·exact eqI ⟨false,rfl,iteF (eqI ⟨false,rfl,iteF (eqI ⟨true,rfl,iteT ⟨p,dx,_,rfl,h1,fldsM_no (by decide +kernel) (by decide +kernel),p,l,m,sp,_,u,rfl,hp,.inr ⟨i,rfl,hi,br,ur u q⟩⟩⟩)⟩)⟩
  ·exact eqI ⟨false,rfl,iteF (eqI ⟨false,rfl,iteF (eqI ⟨false,rfl,iteF ⟨p,dx,_,rfl,h1,fldsM_no (by decide +kernel) (by decide +kernel),p,l,m,sp,v,rfl,hp,.inr ⟨bw,uw v q⟩⟩⟩)⟩)⟩
theorem sc_right:FnScope ["_law_machine","_law_kinds_here","_law_x","_law_y","_law_many","_law_way","_law_room","_law_text_here","_law_thing","_law_letter"] ["_law_machine","_law_kinds_here","_law_x","_law_y"] (defScope s_right):=⟨rfl,rfl,rfl,by decide +kernel,rfl,by decide +kernel,by decide +kernel⟩
theorem ok_right (T:Txt K mg a):FnOk P w K mg base CX0 7 a.f_right a.d_right ["_law_machine","_law_kinds_here","_law_x","_law_y"] (sp_right K a):=by
 refine T.f_right.ok sc_right (fun vs H Q E h=>?_) (fun cdv A outer s H vs Q E hr h=>?_)
 ·obtain⟨_,_,_,_,_,_,rfl,_⟩:=h;rfl
 ·have hu64:=hr.units
  have hu1:=Nat.lt_of_le_of_lt (Nat.add_le_add_left (show 1≤64 by decide) _) hu64
  obtain⟨p,l,m,sp,x,y,rfl,hp,ok,hy,q⟩:=h
  refine⟨_,(pss_cons (ps_set (i:=4) sc_right.nd rfl (Or.inl rfl) (pe_meth0 (pv 0) T.cl_Machine T.me_Machine_rooms (ok_Machine_rooms T) (hr.mono (by decide)) T.b_Machine_rooms .nil pass0))
   (pss_cons (ps_set (i:=5) sc_right.nd rfl (Or.inl rfl) (pe_op op_mod (pv 2) pe_int))
   (pss_cons (ps_set (i:=6) sc_right.nd rfl (Or.inl rfl) (pe_call (ok_badr T) (hr.mono (by decide)) rfl T.m_badr T.f_badr.kp T.b_badr .nil pass0 (pa_cons (pv 3) (pa_cons (pv 4) pa_nil))))
   (pss_hold (pss_cons (ps_if (pt_cmpR (op_eqDK (K:=K) rfl hu64) (pv 5) pe_int (nomark _)) (pss_cons (ps_set (i:=7) sc_right.nd rfl (Or.inl rfl) (pe_ix (ix_listK (K:=K) rfl) (pe_lst (pa_cons (pe_ix ix_tx (pv 1) pe_int (fun _ _=>rfl)) (pa_cons pe_non pa_nil))) (pe_op op_mod (pe_op op_fdiv (pv 3) pe_int) pe_int) (fun _ _=>rfl)))
   (pss_one (ps_ret (pe_cmpR (op_eqDK (K:=K) rfl hu64) (pe_call (ok_made T) (hr.mono (by decide)) rfl T.m_made T.f_made.kp T.b_made .nil pass0 (pa_cons (pv 7) (pa_cons (pe_call (ok_badk T) (hr.mono (by decide)) rfl T.m_badk T.f_badk.kp T.b_badk .nil pass0 (pa_cons (pv 3) pa_nil)) pa_nil))) (pe_tup (pa_cons (pe_strT (l:=[107,105,110,100,115]) (by decide +kernel)) (pa_cons pe_non pa_nil))) (nomark _))))) pss_nil)
   (pss_hold (pss_cons (ps_if (pt_cmpR (op_eqDK (K:=K) rfl hu64) (pv 5) pe_int (nomark _)) (pss_cons (ps_set (i:=8) sc_right.nd rfl (Or.inl rfl) (pe_call (ok_badw T) (hr.mono (by decide)) rfl T.m_badw T.f_badw.kp T.b_badw .nil pass0 (pa_cons (pv 3) (pa_cons (pv 1) (pa_cons pe_int pa_nil)))))
   (pss_one (ps_ret (pe_call (ok_alike T) (hr.mono (by decide)) rfl T.m_alike T.f_alike.kp T.b_alike .nil pass0 (pa_cons (pe_call (ok_made T) (hr.mono (by decide)) rfl T.m_made T.f_made.kp T.b_made .nil pass0 (pa_cons (pv 8) (pa_cons (pv 1) pa_nil))) (pa_cons (pe_strT (l:=[119,111,114,100]) (by decide +kernel)) (pa_cons (pv 8) pa_nil))))))) pss_nil)
   (pss_hold (pss_cons (ps_if (pt_cmpR (op_eqDK (K:=K) rfl hu64) (pv 5) pe_int (nomark _)) (pss_one (ps_ret (pe_call (ok_alike T) (hr.mono (by decide)) rfl T.m_alike T.f_alike.kp T.b_alike .nil pass0 (pa_cons (pe_call (ok_asked T) (hr.mono (by decide)) rfl T.m_asked T.f_asked.kp T.b_asked .nil pass0 (pa_cons (pv 0) (pa_cons pe_int (pa_cons (pv 6) (pa_cons (pe_ix (ix_listK (K:=K) rfl) (pe_lst (pa_cons (pe_ix ix_tx (pv 1) pe_int (fun _ _=>rfl)) (pa_cons (pe_strT (l:=[63]) (by decide +kernel)) pa_nil))) (pe_op op_mod (pe_op op_fdiv (pv 3) pe_int) pe_int) (fun _ _=>rfl)) pa_nil))))) (pa_cons (pe_strT (l:=[114,111,111,109]) (by decide +kernel)) (pa_cons (pv 6) pa_nil)))))) pss_nil)
   (pss_hold (pss_cons (ps_if (pt_cmpR (op_eqDK (K:=K) rfl hu64) (pv 5) pe_int (nomark _)) (pss_cons (ps_set (i:=9) sc_right.nd rfl (Or.inl rfl) (pe_call (ok_badl T) (hr.mono (by decide)) rfl T.m_badl T.f_badl.kp T.b_badl .nil pass0 (pa_cons (pv 3) (pa_cons (pv 1) pa_nil))))
   (pss_one (ps_ret (pe_call (ok_alike T) (hr.mono (by decide)) rfl T.m_alike T.f_alike.kp T.b_alike .nil pass0 (pa_cons (pe_call (ok_asked T) (hr.mono (by decide)) rfl T.m_asked T.f_asked.kp T.b_asked .nil pass0 (pa_cons (pv 0) (pa_cons pe_int (pa_cons (pe_op op_mod (pv 3) (pv 4)) (pa_cons (pv 9) pa_nil))))) (pa_cons (pe_strT (l:=[119,111,114,100]) (by decide +kernel)) (pa_cons (pv 9) pa_nil))))))) pss_nil)
   (pss_hold (pss_cons (ps_if (pt_cmpR (op_eqDK (K:=K) rfl hu64) (pv 5) pe_int (nomark _)) (pss_one (ps_ret (pe_call (ok_alike T) (hr.mono (by decide)) rfl T.m_alike T.f_alike.kp T.b_alike .nil pass0 (pa_cons (pe_call (ok_asked T) (hr.mono (by decide)) rfl T.m_asked T.f_asked.kp T.b_asked .nil pass0 (pa_cons (pv 0) (pa_cons pe_int (pa_cons (pv 6) (pa_cons pe_int pa_nil))))) (pa_cons (pe_strT (l:=[114,111,111,109]) (by decide +kernel)) (pa_cons (pv 6) pa_nil)))))) pss_nil)
   (pss_hold (pss_cons (ps_if (pt_cmpR (op_eqDK (K:=K) rfl hu64) (pv 5) pe_int (nomark _)) (pss_one (ps_ret (pe_call (ok_alike T) (hr.mono (by decide)) rfl T.m_alike T.f_alike.kp T.b_alike .nil pass0 (pa_cons (pe_call (ok_asked T) (hr.mono (by decide)) rfl T.m_asked T.f_asked.kp T.b_asked .nil pass0 (pa_cons (pv 0) (pa_cons pe_int (pa_cons (pv 6) (pa_cons (pe_ix (ix_listK (K:=K) rfl) (pe_lst (pa_cons pe_int (pa_cons (pv 4) pa_nil))) (pe_op op_mod (pe_op op_fdiv (pv 3) pe_int) pe_int) (fun _ _=>rfl)) pa_nil))))) (pa_cons (pe_strT (l:=[114,111,111,109]) (by decide +kernel)) (pa_cons (pv 6) pa_nil)))))) pss_nil)
   (pss_hold (pss_cons (ps_if (pt_cmpR (op_eqDK (K:=K) rfl hu64) (pv 5) pe_int (nomark _)) (pss_one (ps_ret (pe_call (ok_alike T) (hr.mono (by decide)) rfl T.m_alike T.f_alike.kp T.b_alike .nil pass0 (pa_cons (pe_call (ok_asked T) (hr.mono (by decide)) rfl T.m_asked T.f_asked.kp T.b_asked .nil pass0 (pa_cons (pv 0) (pa_cons pe_int (pa_cons (pe_op op_mod (pv 3) (pv 4)) (pa_cons (pv 6) pa_nil))))) (pa_cons (pe_strT (l:=[114,111,111,109]) (by decide +kernel)) (pa_cons (pv 6) pa_nil)))))) pss_nil)
   (pss_hold (pss_cons (ps_set (i:=8) sc_right.nd rfl (Or.inl rfl) (pe_call (ok_badw T) (hr.mono (by decide)) rfl T.m_badw T.f_badw.kp T.b_badw .nil pass0 (pa_cons (pv 3) (pa_cons (pv 1) (pa_cons pe_int pa_nil)))))
   (pss_one (ps_ret (pe_call (ok_alike T) (hr.mono (by decide)) rfl T.m_alike T.f_alike.kp T.b_alike .nil pass0 (pa_cons (pe_call (ok_asked T) (hr.mono (by decide)) rfl T.m_asked T.f_asked.kp T.b_asked .nil pass0 (pa_cons (pv 0) (pa_cons pe_int (pa_cons (pv 8) (pa_cons pe_int pa_nil))))) (pa_cons (pe_strT (l:=[119,111,114,100]) (by decide +kernel)) (pa_cons (pv 8) pa_nil))))))))))))))))))))))))),?_⟩
  have m1:=ok.m1
  have m4:=ok.m4
  have sz:∀k:Nat,k≤1000→k≤sizeLine:=fun k h=>Nat.le_trans h (by rw[sizeLine_eq];decide)
  obtain⟨dx,qa,ys,h1,h2,h3⟩:=id hp
  obtain⟨c0,hc,mc⟩:=first_ex m1
  have kok:KOk m:=⟨ok.k,m1,m4⟩
  have szm:m.length≤sizeLine:=sz _ (by omega)
  have M:=h3.msp
  have spl:sp.length≤1681:=rooms_le M.nd (fun s hs=>let ⟨i,hi⟩:=List.mem_iff_getElem?.mp hs;M.word i s hi) ok.l40
  have N0:0<sp.length:=(List.getElem?_eq_some_iff.mp h3.first).1
  have pN:(0:Int)<(sp.length:Nat):=by omega
  obtain⟨r,er,hr⟩:∃k:Nat,y % ((sp.length:Nat):Int)=(k:Int)∧k<sp.length:=by
   have e0:=Int.emod_nonneg y (show ((sp.length:Nat):Int)≠0 by omega)
   have e1:=Int.emod_lt_of_pos y pN
   exact⟨(y % ((sp.length:Nat):Int)).toNat,by omega,by omega⟩
  have d2:0≤y/16 % 2∧y/16 % 2<2:=⟨by omega,by omega⟩
  have ak:∀(t:Addr) (w:List Nat) (v:V) (H2:Hp),Same H H2→H2 t=some (.tup [tx w,v])→Tame K H2 v→sp_alike K a [V.ref t,tx w,v] H2 Q E0:=fun t w v H2 s2 h2 tm=>⟨t,w,v,rfl,h2,tm,q H2 s2⟩
  walk_at "rd"
  refine⟨p,dx,_,rfl,h1,fldsM_no (by decide +kernel) (by decide +kernel),p,l,m,sp,rfl,hp,by decide,y,sp.length,rfl,hy,by omega,fun rm H1 s1 br=>hold_of ?_⟩
  have hp1:=hp.same s1
  generalize x % 8=wy
  walk_at "rd"
  refine .inl ⟨rfl,_,rfl,ite2 (fun _=>?A) (fun _=>hold_of ?B)⟩
  case A=>
   refine⟨m,0,c0,rfl,rfl,szm,hc,sz _ (by decide),NewL.of fun p2 H2 s2 n2 l2=>⟨⟨by decide,by decide⟩,by decide,?_⟩⟩
   obtain⟨v,hv,hm⟩:=atI_ok (xs:=[tx [c0],V.non]) (i:=y/16 % 2) (by omega) (by show _<(2:Int);omega)
   refine⟨p2,_,_,v,rfl,rfl,.mk l2,hv,y,rfl,fun bk H3 s3 hk=>⟨v,bk,rfl,.inl ⟨hk,fun t H4 s4 h4=>⟨sz _ (by decide),NewT.of fun t2 H5 s5 n5 l5=>eqT_same (.mk (s5 _ _ h4)) (.mk l5) rfl (q H5 (s1.trans (s2.trans (s3.trans (s4.trans s5)))))⟩⟩⟩⟩
  case B=>
   walk_at "rd"
   refine .inl ⟨rfl,_,rfl,ite2 (fun _=>?A) (fun _=>hold_of ?B)⟩
   case A=>
    refine⟨y,m,40,rfl,kok,by decide,by decide,fun v H2 s2 bw=>?_⟩
    walk_at "rd?"
    exact⟨v,_,rfl,.inr ⟨m,rfl,kok,bw,fun t H3 s3 h3=>ak t _ v H3 (s1.trans (s2.trans s3)) h3 (bw.same s3).tame⟩⟩
   case B=>
    walk_at "rd"
    refine .inl ⟨rfl,_,rfl,ite2 (fun _=>?A) (fun _=>hold_of ?B)⟩
    case A=>
     refine⟨m,0,c0,rfl,rfl,szm,hc,sz _ (by decide),NewL.of fun p2 H2 s2 n2 l2=>⟨⟨by decide,by decide⟩,by decide,?_⟩⟩
     obtain⟨v,hv,hm⟩:=atI_ok (xs:=[tx [c0],tx [63]]) (i:=y/16 % 2) (by omega) (by show _<(2:Int);omega)
     exact⟨p2,_,_,v,rfl,rfl,.mk l2,hv,p,l,m,sp,0,rm,v,rfl,hp1.same s2,.inl ⟨.inl rfl,br.same s2,fun t H3 s3 h3=>ak t _ rm H3 (s1.trans (s2.trans s3)) h3 ((br.same s2).same s3).tame⟩⟩
    case B=>
     walk_at "rd"
     refine .inl ⟨rfl,_,rfl,ite2 (fun _=>?A) (fun _=>hold_of ?B)⟩
     case A=>
      refine⟨y,m,rfl,kok,fun v H2 s2 bl=>?_⟩
      walk_at "rd?"
      refine⟨pN,?_⟩
      rw[er]
      exact⟨p,l,m,sp,0,_,v,rfl,hp1.same s2,.inr (.inl ⟨rfl,r,rfl,hr,bl,fun t H3 s3 h3=>ak t _ v H3 (s1.trans (s2.trans s3)) h3 (bl.same s3).tame⟩)⟩
     case B=>
      walk_at "rd"
      refine .inl ⟨rfl,_,rfl,ite2 (fun _=>?A) (fun _=>hold_of ?B)⟩
      case A=>exact⟨p,l,m,sp,1,rm,_,rfl,hp1,.inl ⟨.inr (.inl rfl),br,fun t H3 s3 h3=>ak t _ rm H3 (s1.trans s3) h3 (br.same s3).tame⟩⟩
      case B=>
       walk_at "rd"
       refine .inl ⟨rfl,_,rfl,ite2 (fun _=>?A) (fun _=>hold_of ?B)⟩
       case A=>
        refine⟨sz _ (by decide),NewL.of fun p2 H2 s2 n2 l2=>⟨⟨by decide,by decide⟩,by decide,?_⟩⟩
        obtain⟨v,hv,hm⟩:=atI_ok (xs:=[V.int 0,V.int ((sp.length:Nat):Int)]) (i:=y/16 % 2) (by omega) (by show _<(2:Int);omega)
        exact⟨p2,_,_,v,rfl,rfl,.mk l2,hv,p,l,m,sp,2,rm,v,rfl,hp1.same s2,.inl ⟨.inr (.inr rfl),br.same s2,fun t H3 s3 h3=>ak t _ rm H3 (s1.trans (s2.trans s3)) h3 ((br.same s2).same s3).tame⟩⟩
       case B=>
        walk_at "rd"
        refine .inl ⟨rfl,_,rfl,ite2 (fun _=>?A) (fun _=>hold_of ?B)⟩
        case A=>
         refine⟨pN,?_⟩
         rw[er]
         exact⟨p,l,m,sp,2,_,rm,rfl,hp1,.inr (.inr (.inl ⟨rfl,r,rfl,hr,br,fun t H3 s3 h3=>ak t _ rm H3 (s1.trans s3) h3 (br.same s3).tame⟩))⟩
        case B=>
         walk_at "rd"
         refine⟨y,m,60,rfl,kok,by decide,by decide,fun v H2 s2 bw=>?_⟩
         walk_at "rd?"
         exact⟨p,l,m,sp,3,v,_,rfl,hp1.same s2,.inr (.inr (.inr ⟨rfl,bw,fun t H3 s3 h3=>ak t _ v H3 (s1.trans (s2.trans s3)) h3 (bw.same s3).tame⟩))⟩
theorem sc_law:FnScope ["_law_script","_law_cell","_law_kinds_here","_law_text_here","_law_machine","_law_before","_law_k","_law_one"] ["_law_script"] (defScope s_law):=⟨rfl,rfl,rfl,by decide +kernel,rfl,by decide +kernel,by decide +kernel⟩
theorem ok_law (T:Txt K mg a):FnOk P w K mg base CX0 8 a.f_law a.d_law ["_law_script"] (spLaw K):=by
 refine T.f_law.ok sc_law (fun vs H Q E h=>?_) (fun cdv A outer s H vs Q E hr h=>?_)
 ·obtain⟨_,_,rfl,_⟩:=h;rfl
 ·have hu64:=hr.units
  have hu1:=Nat.lt_of_le_of_lt (Nat.add_le_add_left (show 1≤64 by decide) _) hu64
  obtain⟨b,ns,rfl,hS,hl,q⟩:=h
  refine⟨_,(pss_cons (ps_set (i:=1) sc_law.nd rfl (Or.inl rfl) (pe_call (ok_lcell T) (hr.mono (by decide)) rfl T.m_lcell T.f_lcell.kp T.b_lcell .nil pass0 (pa_cons (pv 0) (pa_cons pe_int pa_nil))))
   (pss_cons (ps_set (i:=2) sc_law.nd rfl (Or.inl rfl) (pe_call (ok_lkinds T) (hr.mono (by decide)) rfl T.m_lkinds T.f_lkinds.kp T.b_lkinds .nil pass0 (pa_cons (pv 1) pa_nil)))
   (pss_cons (ps_set (i:=3) sc_law.nd rfl (Or.inl rfl) (pe_call (ok_ltext T) (hr.mono (by decide)) rfl T.m_ltext T.f_ltext.kp T.b_ltext .nil pass0 (pa_cons (pe_call (ok_lcell T) (hr.mono (by decide)) rfl T.m_lcell T.f_lcell.kp T.b_lcell .nil pass0 (pa_cons (pv 0) (pa_cons pe_int pa_nil))) (pa_cons (pv 1) (pa_cons (pv 2) (pa_cons pe_int pa_nil))))))
   (pss_hold (pss_cons (ps_set (i:=4) sc_law.nd rfl (Or.inr rfl) (pe_make T.mk_Machine (ok_Machine_init T) (hr.mono (by decide)) rfl T.m_Machine T.b_Machine_init .nil pass_no (pa_cons (pv 3) (pa_cons (pv 2) pa_nil))))
   (pss_hold (pss_cons (ps_set (i:=5) sc_law.nd rfl (Or.inl rfl) (pe_tup (pa_cons (pe_meth0 (pv 4) T.cl_Machine T.me_Machine_rooms (ok_Machine_rooms T) (hr.mono (by decide)) T.b_Machine_rooms .nil pass0) (pa_cons (pe_meth0 (pv 4) T.cl_Machine T.me_Machine_ways (ok_Machine_ways T) (hr.mono (by decide)) T.b_Machine_ways .nil pass0) (pa_cons (pe_comp (N:=["_law_letter","_law_machine"]) (ix:=[none,some 4]) rfl (cmpOk_ok rfl) rfl (pi_text (pv 2)) (fun _ _ _ _=>(pg_name (i:=0) (show (["_law_letter","_law_machine"]:List Str).Nodup from by decide +kernel) rfl (Or.inl rfl) (Or.inr rfl))) (fun _ _ _ _=>pifs_nil) (fun _ _ _ _=>(pe_meth (pv 1) T.cl_Machine T.me_Machine_room_of (ok_Machine_room_of T) (hr.mono (by decide)) T.b_Machine_room_of .nil pass_no (pa_cons (pv 0) pa_nil)))) pa_nil)))))
   (pss_hold (pss_cons (ps_for PassesOwn.never rfl (pi_range1 rfl T.z_range (pa_cons (pe_callB (call_max2 rfl) rfl T.z_max bt_max (pa_cons pe_int (pa_cons (pe_callB (call_min2 rfl) rfl T.z_min bt_min (pa_cons (pe_callB (call_lenK (K:=K) rfl) rfl T.z_len bt_len (pa_cons (pv 0) pa_nil)) (pa_cons pe_int pa_nil))) pa_nil))) pa_nil)) (pg_name (i:=6) sc_law.nd rfl (Or.inl rfl))
   (pss_cons (ps_set (i:=7) sc_law.nd rfl (Or.inl rfl) (pe_call (ok_lcell T) (hr.mono (by decide)) rfl T.m_lcell T.f_lcell.kp T.b_lcell .nil pass0 (pa_cons (pv 0) (pa_cons (pv 6) pa_nil))))
   (pss_one (ps_if (pt_not (pt_val (pe_call (ok_right T) (hr.mono (by decide)) rfl T.m_right T.f_right.kp T.b_right .nil pass0 (pa_cons (pv 4) (pa_cons (pv 2) (pa_cons (pe_call (ok_mixed T) (hr.mono (by decide)) rfl T.m_mixed T.f_mixed.kp T.b_mixed .nil pass0 (pa_cons (pv 7) (pa_cons (pe_op op_add pe_int (pv 6)) pa_nil))) (pa_cons (pe_call (ok_mixed T) (hr.mono (by decide)) rfl T.m_mixed T.f_mixed.kp T.b_mixed .nil pass0 (pa_cons (pv 7) (pa_cons (pe_op op_add pe_int (pv 6)) pa_nil))) pa_nil))))))) (pss_one (ps_ret pe_bl)) pss_nil))))
   (pss_hold (pss_one (ps_ret (pe_cmpR (op_eqDK (K:=K) rfl hu64) (pe_tup (pa_cons (pe_meth0 (pv 4) T.cl_Machine T.me_Machine_rooms (ok_Machine_rooms T) (hr.mono (by decide)) T.b_Machine_rooms .nil pass0) (pa_cons (pe_meth0 (pv 4) T.cl_Machine T.me_Machine_ways (ok_Machine_ways T) (hr.mono (by decide)) T.b_Machine_ways .nil pass0) (pa_cons (pe_comp (N:=["_law_letter","_law_machine"]) (ix:=[none,some 4]) rfl (cmpOk_ok rfl) rfl (pi_text (pv 2)) (fun _ _ _ _=>(pg_name (i:=0) (show (["_law_letter","_law_machine"]:List Str).Nodup from by decide +kernel) rfl (Or.inl rfl) (Or.inr rfl))) (fun _ _ _ _=>pifs_nil) (fun _ _ _ _=>(pe_meth (pv 1) T.cl_Machine T.me_Machine_room_of (ok_Machine_room_of T) (hr.mono (by decide)) T.b_Machine_room_of .nil pass_no (pa_cons (pv 0) pa_nil)))) pa_nil)))) (pv 5) (nomark _)))))))))))))),?_⟩
  have sz:∀k:Nat,k≤3000→k≤sizeLine:=fun k h=>Nat.le_trans h (by rw[sizeLine_eq];decide)
  walk_at "rd"
  refine⟨b,ns,0,rfl,hS,by decide,fun way=>⟨_,rfl,fun m mk m1 m4=>⟨b,ns,1,rfl,hS,by decide,fun r1=>⟨_,_,m,rfl,m1,m4,fun l l12 lm=>?_⟩⟩⟩⟩
  have ok:StripOk l m:=⟨mk,m1,m4,by omega,lm⟩
  refine hold_of ?_
  walk_at "rd"
  intro pr dr npr ndr ner
  have sm:Same H (upd (upd H dr (.own pr)) pr (.ins a.c_Machine dr [])):=fun b o e=>by rw[upd_ne (ne_of_none e npr),upd_ne (ne_of_none e ndr)];exact e
  refine⟨pr,dr,_,_,rfl,upd_same,.inl ⟨l,m,rfl,rfl,ok,fun sp H2 r2 k2=>⟨rfl,?_⟩⟩⟩
  have s2:Same H H2:=fun b o e=>k2 b o (sm b o e) (ne_of_none e npr)
  obtain⟨dx,qa,ys0,p1,p2,p3⟩:=id r2
  have nd:=r2.nd
  have M:=p3.msp
  have f0:sp[0]?=some (spotsAt l []):=by rw[spots_nil];exact p3.first
  have ex:∀i:Nat,i<m.length→∃v,RoomV l sp [m.getD i 0] v∧flatV v=true:=fun i hi=>room1 M f0 (by rw[List.getD_eq_getElem?_getD,List.getElem?_eq_getElem hi];exact List.getElem_mem hi)
  obtain⟨f,hf⟩:∃f:Nat→V,∀i,i<m.length→RoomV l sp [m.getD i 0] (f i)∧flatV (f i)=true:=⟨fun i=>if h:i<m.length then Classical.choose (ex i h) else .non,fun i h=>by simp only[dif_pos h];exact Classical.choose_spec (ex i h)⟩
  refine hold_of ?_
  walk_at "rd"
  have fl:(((List.range m.length).filter fun _=>true).map f).all flatV=true:=by
   rw[List.all_eq_true]
   intro v hv
   obtain⟨i,hi,rfl⟩:=List.mem_map.mp hv
   exact(hf i (List.mem_range.mp (List.mem_filter.mp hi).1)).2
  have rooms:∀(H3:Hp) (Q3:VK),Same H2 H3→(∀pc H4,Same H3 H4→H4 pc=some (.lst (((List.range m.length).filter fun _=>true).map f))→Q3 (.ref pc) H4)→CompRun (Its m) [none,some (V.ref pr)] (gName 0) tAll (tMeth a.c_Machine (Str.ofString "room_of") (sp_Machine_room_of K a) [] EN (tVar 1) (tCons (tVar 0) tNil)) H3 Q3:=fun H3 Q3 s3 q3=>by
   refine CompRun.text (fun _=>true) f (by omega) ?_ ?_ ?_
   ·intro i H4 Q4 hi s4 q4
    walk_at "rd?"
    exact q4 H4 (Same.refl _)
   ·intro i H4 Q4 hi _ s4 q4
    have s24:=s3.trans s4
    walk_at "rd"
    refine⟨pr,dx,_,rfl,s24 _ _ p1,fldsM_no (by decide +kernel) (by decide +kernel),pr,l,m,sp,_,rfl,r2.same s24,.inl ⟨[m.getD i 0],rfl,by simp,fun c hc=>?_,fun v H5 s5 rv=>?_⟩⟩
    ·rw[List.mem_singleton.mp hc,List.getD_eq_getElem?_getD,List.getElem?_eq_getElem hi]
     exact List.getElem_mem hi
    ·rw[RoomV.one nd rv (hf i hi).1]
     exact q4 H5 s5
   ·intro pc H4 s4 n4 l4
    exact q3 pc H4 s4 l4
  generalize (((List.range m.length).filter fun _=>true).map f)=fs at fl rooms
  refine⟨pr,dx,_,rfl,p1,fldsM_no (by decide +kernel) (by decide +kernel),pr,l,m,sp,rfl,r2,pr,dx,_,rfl,p1,fldsM_no (by decide +kernel) (by decide +kernel),pr,l,m,sp,rfl,r2,ok,fun H3 s3=>⟨m,rfl,rooms H3 _ s3 fun pc H4 s4 l4=>⟨sz _ (by decide),NewT.of fun pt H5 s5 n5 t5=>?_⟩⟩⟩
  have s25:=s3.trans (s4.trans s5)
  have l5:=s5 _ _ l4
  walk_at "rd?"
  refine hold_of ?_
  walk_at "rd"
  have sS:=(s2.trans s25).seq hS
  refine⟨_,_,rfl,.inl ⟨_,sS,rfl⟩,_,_,rfl,_,_,rfl,_,rfl,?_⟩
  obtain⟨n,en,n0,n30⟩:∃n:Int,(if (if (30:Int)<(((ns.map V.int).length:Nat):Int) then (30:Int) else (((ns.map V.int).length:Nat):Int))>1 then (if (30:Int)<(((ns.map V.int).length:Nat):Int) then (30:Int) else (((ns.map V.int).length:Nat):Int)) else 1)=n∧0≤n∧n≤30:=by
   have x0:(if (30:Int)<(((ns.map V.int).length:Nat):Int) then (30:Int) else (((ns.map V.int).length:Nat):Int))≤30:=by split<;>omega
   generalize (if (30:Int)<(((ns.map V.int).length:Nat):Int) then (30:Int) else (((ns.map V.int).length:Nat):Int))=x at x0
   refine⟨_,rfl,?_,?_⟩<;>split<;>omega
  rw[en]
  refine⟨by omega,by omega,ForRun.range (fun i σ H'=>∃(v6 v7:Option V),σ=[some (.ref b),some (.int way),some (tx m),some (tx l),some (.ref pr),some (.ref pt),v6,v7]∧Same H5 H') ⟨_,_,rfl,Same.refl _⟩ ?_ ?_⟩
  ·rintro i σ H6 hi ⟨v6,v7,rfl,s6⟩
   have s26:=s25.trans s6
   walk_at "rd"
   refine⟨b,ns,_,rfl,(s2.trans s26).seq hS,by omega,fun one=>?_⟩
   walk_at "rd?"
   refine⟨_,_,rfl,fun ra ha=>⟨_,_,rfl,fun rb hb=>⟨pr,l,m,sp,ra,rb,rfl,r2.same s26,ok,hb,fun H7 s7=>⟨true,rfl,?_⟩⟩⟩⟩
   rw[Bool.not_true]
   exact iteF ⟨_,_,rfl,s6.trans s7⟩
  ·rintro σ H6 ⟨v6,v7,rfl,s6⟩
   have s26:=s25.trans s6
   walk_at "rd?"
   refine hold_of ?_
   walk_at "rd"
   refine⟨pr,dx,_,rfl,s26 _ _ p1,fldsM_no (by decide +kernel) (by decide +kernel),pr,l,m,sp,rfl,r2.same s26,pr,dx,_,rfl,s26 _ _ p1,fldsM_no (by decide +kernel) (by decide +kernel),pr,l,m,sp,rfl,r2.same s26,ok,fun H7 s7=>⟨m,rfl,rooms H7 _ (s26.trans s7) fun pd H8 s8 l8=>⟨sz _ (by decide),NewT.of fun pu H9 s9 n9 t9=>?_⟩⟩⟩
   have s59:=s6.trans (s7.trans (s8.trans s9))
   exact eqB (.mk t9) (.mk (s59 _ _ t5)) (.mk (s9 _ _ l8)) (.mk (s59 _ _ l5)) fl (q H9)
end
end Pk15
namespace PySem.W.Fast
def tw10077700601220271237:=0
def tw10144019016520668087:=0
def tw10258564612813409501:=0
def tw10311367777608075570:=0
def tw1031511801809676545:=0
def tw10326044510925109172:=0
def tw1042846664907107784:=0
def tw10432599011202130743:=0
def tw10526005130777420939:=0
def tw10532722169851528572:=0
def tw10543021396367005017:=0
def tw10556588680402906787:=0
def tw10624695651032901052:=0
def tw106294371720202580:=0
def tw10719562209910412434:=0
def tw10749737567601234485:=0
def tw10836165860416835902:=0
def tw10849079252907587715:=0
def tw10932547373256148615:=0
def tw10969538086561586010:=0
def tw11087771172345086783:=0
def tw11108839457961303510:=0
def tw11139401171708034331:=0
def tw11158753368750018784:=0
def tw1117386537927215785:=0
def tw11217389978182857254:=0
def tw11219883053891319699:=0
def tw1138801665894276397:=0
def tw1140364476664461952:=0
def tw11411701247035393245:=0
def tw11453662452781431643:=0
def tw11593450257583399170:=0
def tw11636644679194013825:=0
def tw11667018912951601041:=0
def tw11764347884926937712:=0
def tw11822926402510228505:=0
def tw118640465505882901:=0
def tw12017668340552727043:=0
def tw12022742197572076465:=0
def tw12040255535375384876:=0
def tw12158475517679433424:=0
def tw12170825351374571228:=0
def tw12226317762077669191:=0
def tw12246570590821150294:=0
def tw12249415258732695678:=0
def tw12269040762891953471:=0
def tw12329080780282691985:=0
def tw12437018759997361305:=0
def tw12489774963188875162:=0
def tw12523634708945758513:=0
def tw12599406621929936129:=0
def tw12661928288392532227:=0
def tw12670020784329575972:=0
def tw12687761377784599416:=0
def tw12858742170094699870:=0
def tw12892377146927452769:=0
def tw1300760324174936236:=0
def tw13194096165148196139:=0
def tw13280452190624373695:=0
def tw13310198697840794626:=0
def tw13322930731156647452:=0
def tw13359082097181976388:=0
def tw13388786807455926508:=0
def tw13396036083627329691:=0
def tw13431484911661862598:=0
def tw13447784889103040916:=0
def tw13513936715689226528:=0
def tw13647605665380701479:=0
def tw13707308140756739256:=0
def tw13749614455832213960:=0
def tw1389699399141716396:=0
def tw13933796791065513958:=0
def tw1396275053756387363:=0
def tw13982844234027489611:=0
def tw14102340314565078197:=0
def tw14118205876554660588:=0
def tw14138327182258281670:=0
def tw14272741401946305918:=0
def tw14329771767952698502:=0
def tw14575104067119185810:=0
def tw14706790057703012906:=0
def tw14759994569311401011:=0
def tw14824652717188426195:=0
def tw1483460721679306660:=0
def tw1493383497718058521:=0
def tw14955763398133610084:=0
def tw14992130553931699363:=0
def tw15007021469582062483:=0
def tw15016250241263051590:=0
def tw15078765898011157306:=0
def tw15277199066163198384:=0
def tw1528751160995432001:=0
def tw15371922560048519317:=0
def tw1538630812427797112:=0
def tw15467360696173758448:=0
def tw15480753702799839900:=0
def tw15657071425084179680:=0
def tw1571363176566253895:=0
def tw15719919157013922840:=0
def tw15751070679413080278:=0
def tw15790966714361483560:=0
def tw15820580239460286972:=0
def tw15840910329744635064:=0
def tw15962233127255651919:=0
def tw15968747580002110523:=0
def tw16002029772368453957:=0
def tw16008184161869809107:=0
def tw16016048681690442077:=0
def tw1605740914708526153:=0
def tw16067606399617532544:=0
def tw16083728717788351246:=0
def tw16165890312281202108:=0
def tw16259991162990494879:=0
def tw16326940087930433712:=0
def tw16421906288411519806:=0
def tw16629793814630877660:=0
def tw16630942481925941580:=0
def tw16647175354895227418:=0
def tw16682087230844886951:=0
def tw16721847103533377585:=0
def tw16723995621676019383:=0
def tw16752130207904062714:=0
def tw16753718676528558675:=0
def tw16767769392762110297:=0
def tw1679375417335555352:=0
def tw16858716399039808446:=0
def tw16992104528962606057:=0
def tw17022785514869610573:=0
def tw17055972997008095547:=0
def tw1709107980014597255:=0
def tw17144253907578036975:=0
def tw1719766169960157434:=0
def tw17294225826230034681:=0
def tw17417923240503942962:=0
def tw17453907948621337936:=0
def tw17471434425324639713:=0
def tw17514081931572405421:=0
def tw17522257462430051659:=0
def tw17542257267073395027:=0
def tw1756589794975551752:=0
def tw17581060600581681398:=0
def tw17644812517808864388:=0
def tw17666294709265683358:=0
def tw1768202999380726962:=0
def tw17720824097176953704:=0
def tw17732620659944367524:=0
def tw17754943816461716348:=0
def tw17759286951390500370:=0
def tw17879983436858232788:=0
def tw17919802361920315881:=0
def tw17937972786262789025:=0
def tw18017200127941184285:=0
def tw18072235312949951052:=0
def tw18088443390787675607:=0
def tw18117061437431842193:=0
def tw18146066331915953208:=0
def tw18146379974222545534:=0
def tw18180377577290382368:=0
def tw18320557082654333492:=0
def tw18356017903628944279:=0
def tw18407491183041626841:=0
def tw18423996918493945186:=0
def tw18431370885762703199:=0
def tw1863653434178003184:=0
def tw1903941912981905491:=0
def tw1938304750713535970:=0
def tw1943949019254437997:=0
def tw2141331886517977466:=0
def tw2220069618243631954:=0
def tw2299200410324668940:=0
def tw2400817980567793104:=0
def tw2405952445840816629:=0
def tw2421710971028378925:=0
def tw2457566745320190470:=0
def tw2611438067286941722:=0
def tw269093878870360629:=0
def tw2748823185653574009:=0
def tw2793280623951537281:=0
def tw2948870768632039298:=0
def tw3041597690860331757:=0
def tw3062902002469423962:=0
def tw322851157648160432:=0
def tw3299424087349998141:=0
def tw3364756449809744047:=0
def tw3412825875860474103:=0
def tw3431852049797799608:=0
def tw3465575806631317758:=0
def tw3514735504105759832:=0
def tw352377619184875085:=0
def tw3594716930937504598:=0
def tw3650426637371731978:=0
def tw3663990247922758779:=0
def tw3725520697843054189:=0
def tw373847467683497672:=0
def tw3774101364534363906:=0
def tw3846172571574619641:=0
def tw3855589637686080159:=0
def tw3867988245887923829:=0
def tw3955441848402072050:=0
def tw3974003047839376735:=0
def tw3977952816068278636:=0
def tw3990062494662561762:=0
def tw414682650825048161:=0
def tw4254026065685842568:=0
def tw4462407127577887575:=0
def tw4469623470788568099:=0
def tw452356949371239616:=0
def tw4633539681425894683:=0
def tw4641691304635248056:=0
def tw4657504476618670292:=0
def tw4669246549063353031:=0
def tw4673131632325986560:=0
def tw4760916466757382816:=0
def tw4911738669541870792:=0
def tw4938647872056728617:=0
def tw4969813940089627379:=0
def tw4971157284736992176:=0
def tw4988348608004403585:=0
def tw5000557487642601242:=0
def tw5004407548963381104:=0
def tw5010164856942517794:=0
def tw5207535950257916919:=0
def tw5219184885988878540:=0
def tw5232169831081477:=0
def tw5265401958534282529:=0
def tw5283208639234525606:=0
def tw5412842173240291255:=0
def tw5506362843563342754:=0
def tw553948397125342248:=0
def tw5553977758200993929:=0
def tw556855036550606756:=0
def tw5648503450710144801:=0
def tw5786022198018274975:=0
def tw5838864022927338604:=0
def tw5868195843456877070:=0
def tw5888935331299568962:=0
def tw5911968828444485235:=0
def tw5920035973710569949:=0
def tw5957325310034959575:=0
def tw6037292545732288640:=0
def tw6042102299921682862:=0
def tw60762496609737357:=0
def tw6099361365268155451:=0
def tw6118360736856300854:=0
def tw6121553330129307199:=0
def tw6182965853363221224:=0
def tw6319069955197935251:=0
def tw640228951747756558:=0
def tw6441584919534203994:=0
def tw6505997207345816531:=0
def tw6644321730820870849:=0
def tw6744204320859946032:=0
def tw6807511446690010978:=0
def tw6858528740122850445:=0
def tw7020513191639970576:=0
def tw7037186194229343716:=0
def tw7127900810272409860:=0
def tw7128552470534841121:=0
def tw7144019645898734287:=0
def tw7187885782629659908:=0
def tw7256809160325742396:=0
def tw7260748450995853384:=0
def tw7275897347904526758:=0
def tw7284462841790092807:=0
def tw7327713592004883823:=0
def tw7424710621800956013:=0
def tw7430238492756676106:=0
def tw7472136468953791403:=0
def tw7524382395916431350:=0
def tw7580423602072577994:=0
def tw7648803934989713903:=0
def tw7759409647889739865:=0
def tw7839484336083738099:=0
def tw7852696132841957590:=0
def tw7958727996644911213:=0
def tw7969073813925843309:=0
def tw7974720793670029192:=0
def tw7977340014753506222:=0
def tw7992266287048277890:=0
def tw7999605598507464231:=0
def tw8007747502292301163:=0
def tw8025739556495046824:=0
def tw8198045783161776896:=0
def tw8277449388509307961:=0
def tw8405236109386178428:=0
def tw8411688544065189706:=0
def tw8456365957459239586:=0
def tw8484774085380249720:=0
def tw8602378790466257065:=0
def tw8668971790028895384:=0
def tw86939969512954183:=0
def tw8818462575682599675:=0
def tw9003901507326183874:=0
def tw903245853107246929:=0
def tw9136690574354072685:=0
def tw919787141672896152:=0
def tw9225575348218226062:=0
def tw9236452381424798592:=0
def tw9243403494388053113:=0
def tw9413718575734184054:=0
def tw9419514206552353283:=0
def tw9588057722107663073:=0
def tw9595916504842014861:=0
def tw9602218173113326745:=0
def tw9652741225614918428:=0
def tw9733943450054014151:=0
def tw981681021447899015:=0
def tw9820701800528098320:=0
def tw9821200212584753382:=0
def tw9836461038096356290:=0
def tw9935849298861028211:=0
def tw9973607368165168877:=0
end PySem.W.Fast
open PySem PySem.W PyProof.Rows
set_option maxRecDepth 100000 in
set_option maxHeartbeats 0 in
theorem PySem.Challenge.cw_lackword_k15_machines_refused_holds : PySem.Challenge.rw_lackword_k15_machines_refused.Holds := by
 w_on;o_law;k_head;(case hw=>w_witness2)
 k_fill
 refine L2.walk_ofK (l:=PySem.Challenge.rw_lackword_k15_machines_refused) (n:=63) (k:=8) (x:="_law_script") (CX:=L2.CX0) (sp:=Pk15.spLaw) rfl (by decide) rfl ⟨rfl,by decide,by decide⟩ (fun w h Y=>PySem.W.kIn_of Y) ?F ?S ?C
 case F=>
  intro w mg fa h KX G hmg
  have T:∃t,Pk15.Txt (L2.KOf KX) mg t:=by
   dsimp only[L2.KOf]
   refine' Pk15.txt_mk KX G ?oc_hn ?oc_tk ?a_LackError ?q_LackError ?r_LackError ?ty_LackError ?ga_LackError ?gr_LackError ?sa_LackError ?hd_LackError ?ob_LackError ?kp_LackError ?ha_LackError ?i_LackError ?rs_LackError ?rr_LackError ?rf_LackError ?a_NoWord ?q_NoWord ?r_NoWord ?ty_NoWord ?ga_NoWord ?gr_NoWord ?sa_NoWord ?hd_NoWord ?ob_NoWord ?kp_NoWord ?ha_NoWord ?i_NoWord ?fn_NoWord ?l_INoWord ?cc_INoWord ?kk_INoWord ?n_NoWord_word ?a_NoRoom ?q_NoRoom ?r_NoRoom ?ty_NoRoom ?ga_NoRoom ?gr_NoRoom ?sa_NoRoom ?hd_NoRoom ?ob_NoRoom ?kp_NoRoom ?ha_NoRoom ?i_NoRoom ?fn_NoRoom ?l_INoRoom ?cc_INoRoom ?kk_INoRoom ?n_NoRoom_room ?a_NoKinds ?q_NoKinds ?r_NoKinds ?ty_NoKinds ?ga_NoKinds ?gr_NoKinds ?sa_NoKinds ?hd_NoKinds ?ob_NoKinds ?kp_NoKinds ?ha_NoKinds ?i_NoKinds ?ow_hn ?ow_tk ?a_Machine ?pg_Machine ?hd_Machine ?po_Machine ?sa_Machine ?rs_Machine ?rr_Machine ?rf_Machine ?mk_Machine ?in_Machine ?kc_Machine ?ha_Machine ?mo_Machine ?me_Machine_rooms ?me_Machine_need_room ?me_Machine_led ?me_Machine_way ?me_Machine_room_of ?me_Machine_word_to ?me_Machine_parting ?me_Machine_ways ?me_Machine_counts_behind ?n_Machine_own_kinds ?n_Machine_own_rooms ?l_MMachine_init ?cc_MMachine_init ?kk_MMachine_init ?fn_MMachine_init ?l_MMachine_rooms ?cc_MMachine_rooms ?kk_MMachine_rooms ?fn_MMachine_rooms ?l_MMachine_need_room ?cc_MMachine_need_room ?kk_MMachine_need_room ?fn_MMachine_need_room ?l_MMachine_led ?cc_MMachine_led ?kk_MMachine_led ?fn_MMachine_led ?l_MMachine_way ?cc_MMachine_way ?kk_MMachine_way ?fn_MMachine_way ?l_MMachine_room_of ?cc_MMachine_room_of ?kk_MMachine_room_of ?fn_MMachine_room_of ?l_MMachine_word_to ?cc_MMachine_word_to ?kk_MMachine_word_to ?fn_MMachine_word_to ?l_MMachine_parting ?cc_MMachine_parting ?kk_MMachine_parting ?fn_MMachine_parting ?l_MMachine_ways ?cc_MMachine_ways ?kk_MMachine_ways ?fn_MMachine_ways ?l_MMachine_counts_behind ?cc_MMachine_counts_behind ?kk_MMachine_counts_behind ?fn_MMachine_counts_behind ?nd ?a_has_only ?l_has_only ?cc_has_only ?kk_has_only ?a_is_kinds ?l_is_kinds ?cc_is_kinds ?kk_is_kinds ?a_is_word ?l_is_word ?cc_is_word ?kk_is_word ?a_is_letter ?l_is_letter ?cc_is_letter ?kk_is_letter ?a_need_kinds ?l_need_kinds ?cc_need_kinds ?kk_need_kinds ?a_need_word ?l_need_word ?cc_need_word ?kk_need_word ?a_need_letter ?l_need_letter ?cc_need_letter ?kk_need_letter ?a_is_within ?l_is_within ?cc_is_within ?kk_is_within ?a_first_spots ?l_first_spots ?cc_first_spots ?kk_first_spots ?a_spots_behind ?l_spots_behind ?cc_spots_behind ?kk_spots_behind ?a_rooms_of ?l_rooms_of ?cc_rooms_of ?kk_rooms_of ?a_lcell ?l_lcell ?cc_lcell ?kk_lcell ?a_mixed ?l_mixed ?cc_mixed ?kk_mixed ?a_lkinds ?l_lkinds ?cc_lkinds ?kk_lkinds ?a_drawn ?l_drawn ?cc_drawn ?kk_drawn ?a_ltext ?l_ltext ?cc_ltext ?kk_ltext ?a_badk ?l_badk ?cc_badk ?kk_badk ?a_badw ?l_badw ?cc_badw ?kk_badw ?a_badr ?l_badr ?cc_badr ?kk_badr ?a_badl ?l_badl ?cc_badl ?kk_badl ?a_told ?l_told ?cc_told ?kk_told ?a_made ?l_made ?cc_made ?kk_made ?a_asked ?l_asked ?cc_asked ?kk_asked ?a_alike ?l_alike ?cc_alike ?kk_alike ?a_right ?l_right ?cc_right ?kk_right ?a_law ?l_law ?cc_law ?kk_law ?z_len ?z_range ?z_isinstance ?z_all ?z_max ?z_min ?z_list ?z_tuple ?z_set ?z_sorted ?z_str ?z_int ?z_bool ?z_sum ?z_ValueError ?c_SMALL_LETTERS ?c_MOST_KINDS ?c_MOST_IN_STRIP ?c_MOST_ASKED
   (case oc_hn=>k_is)
   (case oc_tk=>k_is)
   (case a_LackError=>k_is)
   (case q_LackError=>k_is)
   (case r_LackError=>rfl)
   (case ty_LackError=>k_is)
   (case ga_LackError=>k_is)
   (case gr_LackError=>k_is)
   (case sa_LackError=>k_is)
   (case hd_LackError=>k_is)
   (case ob_LackError=>k_is)
   (case kp_LackError=>k_is)
   (case ha_LackError=>k_is)
   (case i_LackError=>k_is)
   (case rs_LackError=>k_is)
   (case rr_LackError=>k_is)
   (case rf_LackError=>k_is)
   (case a_NoWord=>k_is)
   (case q_NoWord=>k_is)
   (case r_NoWord=>rfl)
   (case ty_NoWord=>k_is)
   (case ga_NoWord=>k_is)
   (case gr_NoWord=>k_is)
   (case sa_NoWord=>k_is)
   (case hd_NoWord=>k_is)
   (case ob_NoWord=>k_is)
   (case kp_NoWord=>k_is)
   (case ha_NoWord=>k_is)
   (case i_NoWord=>k_is)
   (case fn_NoWord=>k_is)
   (case l_INoWord=>k_is)
   (case cc_INoWord=>k_is)
   (case kk_INoWord=>k_is)
   (case n_NoWord_word=>k_is)
   (case a_NoRoom=>k_is)
   (case q_NoRoom=>k_is)
   (case r_NoRoom=>rfl)
   (case ty_NoRoom=>k_is)
   (case ga_NoRoom=>k_is)
   (case gr_NoRoom=>k_is)
   (case sa_NoRoom=>k_is)
   (case hd_NoRoom=>k_is)
   (case ob_NoRoom=>k_is)
   (case kp_NoRoom=>k_is)
   (case ha_NoRoom=>k_is)
   (case i_NoRoom=>k_is)
   (case fn_NoRoom=>k_is)
   (case l_INoRoom=>k_is)
   (case cc_INoRoom=>k_is)
   (case kk_INoRoom=>k_is)
   (case n_NoRoom_room=>k_is)
   (case a_NoKinds=>k_is)
   (case q_NoKinds=>k_is)
   (case r_NoKinds=>rfl)
   (case ty_NoKinds=>k_is)
   (case ga_NoKinds=>k_is)
   (case gr_NoKinds=>k_is)
   (case sa_NoKinds=>k_is)
   (case hd_NoKinds=>k_is)
   (case ob_NoKinds=>k_is)
   (case kp_NoKinds=>k_is)
   (case ha_NoKinds=>k_is)
   (case i_NoKinds=>k_is)
   (case ow_hn=>k_is)
   (case ow_tk=>k_is)
   (case a_Machine=>k_is)
   (case pg_Machine=>k_is)
   (case hd_Machine=>k_is)
   (case po_Machine=>k_is)
   (case sa_Machine=>k_is)
   (case rs_Machine=>k_is)
   (case rr_Machine=>k_is)
   (case rf_Machine=>k_is)
   (case mk_Machine=>k_is)
   (case in_Machine=>k_is)
   (case kc_Machine=>k_is)
   (case ha_Machine=>k_is)
   (case mo_Machine=>k_is)
   (case me_Machine_rooms=>k_is)
   (case me_Machine_need_room=>k_is)
   (case me_Machine_led=>k_is)
   (case me_Machine_way=>k_is)
   (case me_Machine_room_of=>k_is)
   (case me_Machine_word_to=>k_is)
   (case me_Machine_parting=>k_is)
   (case me_Machine_ways=>k_is)
   (case me_Machine_counts_behind=>k_is)
   (case n_Machine_own_kinds=>k_is)
   (case n_Machine_own_rooms=>k_is)
   (case l_MMachine_init=>k_is)
   (case cc_MMachine_init=>k_is)
   (case kk_MMachine_init=>k_is)
   (case fn_MMachine_init=>k_is)
   (case l_MMachine_rooms=>k_is)
   (case cc_MMachine_rooms=>k_is)
   (case kk_MMachine_rooms=>k_is)
   (case fn_MMachine_rooms=>k_is)
   (case l_MMachine_need_room=>k_is)
   (case cc_MMachine_need_room=>k_is)
   (case kk_MMachine_need_room=>k_is)
   (case fn_MMachine_need_room=>k_is)
   (case l_MMachine_led=>k_is)
   (case cc_MMachine_led=>k_is)
   (case kk_MMachine_led=>k_is)
   (case fn_MMachine_led=>k_is)
   (case l_MMachine_way=>k_is)
   (case cc_MMachine_way=>k_is)
   (case kk_MMachine_way=>k_is)
   (case fn_MMachine_way=>k_is)
   (case l_MMachine_room_of=>k_is)
   (case cc_MMachine_room_of=>k_is)
   (case kk_MMachine_room_of=>k_is)
   (case fn_MMachine_room_of=>k_is)
   (case l_MMachine_word_to=>k_is)
   (case cc_MMachine_word_to=>k_is)
   (case kk_MMachine_word_to=>k_is)
   (case fn_MMachine_word_to=>k_is)
   (case l_MMachine_parting=>k_is)
   (case cc_MMachine_parting=>k_is)
   (case kk_MMachine_parting=>k_is)
   (case fn_MMachine_parting=>k_is)
   (case l_MMachine_ways=>k_is)
   (case cc_MMachine_ways=>k_is)
   (case kk_MMachine_ways=>k_is)
   (case fn_MMachine_ways=>k_is)
   (case l_MMachine_counts_behind=>k_is)
   (case cc_MMachine_counts_behind=>k_is)
   (case kk_MMachine_counts_behind=>k_is)
   (case fn_MMachine_counts_behind=>k_is)
   (case nd=>decide)
   (case a_has_only=>k_is)
   (case l_has_only=>k_is)
   (case cc_has_only=>k_is)
   (case kk_has_only=>k_is)
   (case a_is_kinds=>k_is)
   (case l_is_kinds=>k_is)
   (case cc_is_kinds=>k_is)
   (case kk_is_kinds=>k_is)
   (case a_is_word=>k_is)
   (case l_is_word=>k_is)
   (case cc_is_word=>k_is)
   (case kk_is_word=>k_is)
   (case a_is_letter=>k_is)
   (case l_is_letter=>k_is)
   (case cc_is_letter=>k_is)
   (case kk_is_letter=>k_is)
   (case a_need_kinds=>k_is)
   (case l_need_kinds=>k_is)
   (case cc_need_kinds=>k_is)
   (case kk_need_kinds=>k_is)
   (case a_need_word=>k_is)
   (case l_need_word=>k_is)
   (case cc_need_word=>k_is)
   (case kk_need_word=>k_is)
   (case a_need_letter=>k_is)
   (case l_need_letter=>k_is)
   (case cc_need_letter=>k_is)
   (case kk_need_letter=>k_is)
   (case a_is_within=>k_is)
   (case l_is_within=>k_is)
   (case cc_is_within=>k_is)
   (case kk_is_within=>k_is)
   (case a_first_spots=>k_is)
   (case l_first_spots=>k_is)
   (case cc_first_spots=>k_is)
   (case kk_first_spots=>k_is)
   (case a_spots_behind=>k_is)
   (case l_spots_behind=>k_is)
   (case cc_spots_behind=>k_is)
   (case kk_spots_behind=>k_is)
   (case a_rooms_of=>k_is)
   (case l_rooms_of=>k_is)
   (case cc_rooms_of=>k_is)
   (case kk_rooms_of=>k_is)
   (case a_lcell=>k_is)
   (case l_lcell=>k_is)
   (case cc_lcell=>k_is)
   (case kk_lcell=>k_is)
   (case a_mixed=>k_is)
   (case l_mixed=>k_is)
   (case cc_mixed=>k_is)
   (case kk_mixed=>k_is)
   (case a_lkinds=>k_is)
   (case l_lkinds=>k_is)
   (case cc_lkinds=>k_is)
   (case kk_lkinds=>k_is)
   (case a_drawn=>k_is)
   (case l_drawn=>k_is)
   (case cc_drawn=>k_is)
   (case kk_drawn=>k_is)
   (case a_ltext=>k_is)
   (case l_ltext=>k_is)
   (case cc_ltext=>k_is)
   (case kk_ltext=>k_is)
   (case a_badk=>k_is)
   (case l_badk=>k_is)
   (case cc_badk=>k_is)
   (case kk_badk=>k_is)
   (case a_badw=>k_is)
   (case l_badw=>k_is)
   (case cc_badw=>k_is)
   (case kk_badw=>k_is)
   (case a_badr=>k_is)
   (case l_badr=>k_is)
   (case cc_badr=>k_is)
   (case kk_badr=>k_is)
   (case a_badl=>k_is)
   (case l_badl=>k_is)
   (case cc_badl=>k_is)
   (case kk_badl=>k_is)
   (case a_told=>k_is)
   (case l_told=>k_is)
   (case cc_told=>k_is)
   (case kk_told=>k_is)
   (case a_made=>k_is)
   (case l_made=>k_is)
   (case cc_made=>k_is)
   (case kk_made=>k_is)
   (case a_asked=>k_is)
   (case l_asked=>k_is)
   (case cc_asked=>k_is)
   (case kk_asked=>k_is)
   (case a_alike=>k_is)
   (case l_alike=>k_is)
   (case cc_alike=>k_is)
   (case kk_alike=>k_is)
   (case a_right=>k_is)
   (case l_right=>k_is)
   (case cc_right=>k_is)
   (case kk_right=>k_is)
   (case a_law=>k_is)
   (case l_law=>k_is)
   (case cc_law=>k_is)
   (case kk_law=>k_is)
   (case z_len=>k_is)
   (case z_range=>k_is)
   (case z_isinstance=>k_is)
   (case z_all=>k_is)
   (case z_max=>k_is)
   (case z_min=>k_is)
   (case z_list=>k_is)
   (case z_tuple=>k_is)
   (case z_set=>k_is)
   (case z_sorted=>k_is)
   (case z_str=>k_is)
   (case z_int=>k_is)
   (case z_bool=>k_is)
   (case z_sum=>k_is)
   (case z_ValueError=>k_is)
   (case c_SMALL_LETTERS=>k_is)
   (case c_MOST_KINDS=>k_is)
   (case c_MOST_IN_STRIP=>k_is)
   (case c_MOST_ASKED=>k_is)
  obtain⟨t,T⟩:=T
  have e0:=hmg.symm.trans T.m_law
  cases e0
  refine' ⟨_,?b,fun base kb nb=>Pk15.ok_law T⟩
  exact T.bl
 case S=>exact fun K H a ns hl hO hS=>⟨a,ns,rfl,hS,hl,fun _=>rfl⟩
 case C=>exact fun _ _ _ _ z=>z
#print axioms PySem.Challenge.cw_lackword_k15_machines_refused_holds
