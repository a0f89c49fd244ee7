import PyProof.Rows.All
import Wide.All
import OpenK.AllK
import Wide.FinOn
import Lean
import PyProof.EqAt
import PyProof.EqKinds
import PyProof.TupleCall
import PyProof.SetRoads
import PyProof.Rows.SetFrom
import PyProof.StrWalks
import PyProof.FactsAll.set
import PyProof.FactsAll.subtypes_3
import PyProof.CollectWalk
import PyProof.CollectStr
import PyProof.StationsW
import PyProof.RulesAs
import KE.KTryMore
import PyProof.NsDelKeeps
import PyProof.ListStr
import PyProof.TupleOfStr
import PyProof.ConsumeS
import KE.KEqDict
import PyProof.DictWalks
import PyProof.DictUpdate
import KE.KLam
import PySem.Challenge.RW_lackword_k74_whole_rings_the_same
set_option Elab.async false
set_option linter.all false
set_option maxRecDepth 100000
namespace L2
open PySem PySem.Spec PyProof.Rows
abbrev Key:=Sum Int Str
def Zck:Key→Value→Bool
 | .inl k,v=>Value.isInt k v
 | .inr x,v=>Value.isStrOf x v
def keyH (w:World):Key→Int
 | .inl k=>hashInt k
 | .inr x=>hashStr w x
theorem ZaM:∀ {k:Key} {v:Value},Zck k v=true→(∃i t,k=Sum.inl i∧v=Value.int i t)∨(∃x t,k=Sum.inr x∧v=Value.str x t)
 | .inl i,v,h=>by
  obtain⟨t,e⟩:=Value.isInt_shape (k:=i) (v:=v) h
  exact .inl ⟨i,t,rfl,e⟩
 | .inr x,v,h=>by
  obtain⟨t,e⟩:=Value.isStrOf_shape (x:=x) (v:=v) h
  exact .inr ⟨x,t,rfl,e⟩
theorem Zgv (x:Str)(t:Tok):Zck (.inr x) (.str x t)=true:=by simp[Zck,Value.isStrOf]
theorem Zj8 (a b:Int):decide ((Sum.inl a:Key)=Sum.inl b)=(a == b):=by
 by_cases e:a=b
 ·subst e;simp
 ·have h:¬(Sum.inl a:Key)=Sum.inl b:=fun q=>e (Sum.inl.inj q)
  rw[decide_eq_false h]
  exact(beq_eq_false_iff_ne.mpr e).symm
theorem Zj5 (a b:Str):decide ((Sum.inr a:Key)=Sum.inr b)=decide (a=b):=by
 by_cases e:a=b
 ·subst e;simp
 ·have h:¬(Sum.inr a:Key)=Sum.inr b:=fun q=>e (Sum.inr.inj q)
  rw[decide_eq_false h,decide_eq_false e]
theorem Zj7 (a:Int)(b:Str):decide ((Sum.inl a:Key)=Sum.inr b)=false:=decide_eq_false (fun q=>nomatch q)
theorem Zj6 (a:Str)(b:Int):decide ((Sum.inr a:Key)=Sum.inl b)=false:=decide_eq_false (fun q=>nomatch q)
def ZaT (prog:Program)(w:World):PySem.KeyKind prog w Key where
 is:=Zck
 hash:=keyH w
 inj:=fun v a b ha hb=>by
  rcases ZaM ha with⟨i,t,rfl,rfl⟩|⟨x,t,rfl,rfl⟩
  ·rcases ZaM hb with⟨j,u,rfl,e⟩|⟨y,u,rfl,e⟩
   ·injection e with e1 _;rw[e1]
   ·exact nomatch e
  ·rcases ZaM hb with⟨j,u,rfl,e⟩|⟨y,u,rfl,e⟩
   ·exact nomatch e
   ·injection e with e1 _;rw[e1]
 byValue:=fun k v h=>by
  rcases ZaM h with⟨i,t,rfl,rfl⟩|⟨x,t,rfl,rfl⟩<;>rfl
 pyHash:=fun hv h=>by
  rcases ZaM hv with⟨i,t,rfl,rfl⟩|⟨x,t,rfl,rfl⟩
  ·exact wpAny_pyHash_int h
  ·exact wpAny_pyHash_str h
 eqBool:=fun hu hv h=>by
  rcases ZaM hu with⟨i,t,rfl,rfl⟩|⟨x,t,rfl,rfl⟩
  ·rcases ZaM hv with⟨j,u,rfl,rfl⟩|⟨y,u,rfl,rfl⟩
   ·rw[Zj8]at h;exact wpAny_eqBool_int h
   ·rw[Zj7]at h;exact SeqAt.EqAt.int_str i t y u _ _ _ _ h
  ·rcases ZaM hv with⟨j,u,rfl,rfl⟩|⟨y,u,rfl,rfl⟩
   ·rw[Zj6]at h;exact SeqAt.EqAt.str_int x t j u _ _ _ _ h
   ·rw[Zj5]at h;exact wpAny_eqBool_str h
 «strs»:=fun k x t v h=>by
  rcases ZaM h with⟨i,u,rfl,e⟩|⟨y,u,rfl,e⟩
  ·exact nomatch e
  ·injection e with e1 _
   subst e1
   cases v<;>rfl
theorem ZcE (prog:Program)(w:World)(x:Str)(t:Tok):(ZaT prog w).is (.inr x) (.str x t)=true:=Zgv x t
inductive V where
 | non | bl (b:Bool) | int (i:Int) | str (x:Str) | byt (b:Array UInt8) | flt (b:UInt64) | ref (a:Addr) | ty (n:String)
 deriving DecidableEq
def RelV:V→Value→Prop
 | .non,u=>u=Value.none
 | .bl b,u=>u=Value.bool b
 | .int i,u=>∃t,u=Value.int i t
 | .str x,u=>∃t,u=Value.str x t
 | .byt b,u=>∃t,u=Value.bytes b t
 | .flt b,u=>∃t,u=Value.float b t
 | .ref a,u=>u=Value.ref a
 | .ty n,u=>u=Value.type n
abbrev Vals:List V→List Value→Prop:=Paired RelV
theorem Vals.length {xs:List V}{us:List Value}(r:Vals xs us):xs.length=us.length:=Paired.length r
theorem Vals.get:∀ {xs:List V} {us:List Value} {i:Nat} {x:V},Vals xs us→xs[i]?=some x→∃u,us[i]?=some u∧RelV x u
 | _,_,_,_,.nil,e=>by simp at e
 | _,_,0,_,.cons r _,e=>by simp at e;subst e;exact⟨_,rfl,r⟩
 | _,_,i+1,x,.cons _ t,e=>by
  obtain⟨u,h1,h2⟩:=Vals.get (i:=i) (x:=x) t (by simpa using e)
  exact⟨u,by simpa using h1,h2⟩
theorem Vals.append:∀ {xs ys:List V} {us ws:List Value},Vals xs us→Vals ys ws→Vals (xs++ys) (us++ws)
 | _,_,_,_,.nil,s=>s
 | _,_,_,_,.cons r t,s=>.cons r (Vals.append t s)
theorem Vals.take:∀ {xs:List V} {us:List Value} (n:Nat),Vals xs us→Vals (xs.take n) (us.take n)
 | _,_,0,_=>.nil
 | _,_,_+1,.nil=>.nil
 | _,_,n+1,.cons r t=>.cons r (Vals.take n t)
theorem Vals.drop:∀ {xs:List V} {us:List Value} (n:Nat),Vals xs us→Vals (xs.drop n) (us.drop n)
 | _,_,0,r=>r
 | _,_,_+1,.nil=>.nil
 | _,_,n+1,.cons _ t=>Vals.drop n t
def RelO:Option V→Option Value→Prop
 | some v,some u=>RelV v u
 | none,none=>True
 | _,_=>False
def KV {κ:Type}:List (κ×V)→List (κ×Value)→Prop:=Paired fun (p:κ×V) (q:κ×Value)=>p.1=q.1∧RelV p.2 q.2
def kV:Key→V
 | .inl i=>.int i
 | .inr x=>.str x
inductive HO where
 | lst (xs:List V)
 | tup (xs:List V)
 | dK (kvs:List (Key×V)) | dT (kvs:List (List Key×V))
 | set (S:Int→Bool) (n:Nat)
 | ins (C dx:Addr) (fs:List (Str×V))
 | own (x:Addr)
 | xd (fs:List (Str×V))
 | met (f x:Addr)
 | rng (lo hi:Int)
 | frz (o:Obj) (u:HO)
 | tbl (ps:Array Value)
 | ext (φ:Heap→Prop)
abbrev Hp:=Addr→Option HO
def upd (H:Hp)(a:Addr)(o:HO):Hp:=fun b=>if b=a then some o else H b
theorem ZaH {H:Hp}{a:Addr}{o:HO}:upd H a o a=some o:=by unfold upd;rw[if_pos rfl]
theorem Zau {H:Hp}{a b:Addr}{o:HO}(h:b≠a):upd H a o b=H b:=by unfold upd;rw[if_neg h]
theorem Zap {H:Hp}{a b:Addr}{o:HO}(h:H a=some o)(h':H b=none):a≠b:=by
 intro e;subst e;rw[h]at h';cases h'
section
variable (P:Program)(w:World)
def ObjOk (H:Hp)(h:Heap)(a:Addr):HO→Prop
 | .lst xs=>xs.length≤sizeLine∧∃(its:List Value) (n:Nat),Vals xs its∧h.get? a=some { cls:=.type "list",data:=.seq its.toArray n }
 | .tup xs=>xs.length≤sizeLine∧∃its:List Value,Vals xs its∧IsTup h a its.toArray
 | .dK kvs=>kvs.length≤sizeLine∧(a == sysModules)=false∧∃vs,KV kvs vs∧h.DictOf (ZaT P w) a vs
 | .dT kvs=>kvs.length≤sizeLine∧(a == sysModules)=false∧∃xs:List (List Key×Addr×Value),
   Paired (fun (p:List Key×V) (q:List Key×Addr×Value)=>p.1=q.1∧H q.2.1=some (.tup (p.1.map kV))∧RelV p.2 q.2.2) kvs xs ∧
   ∃o es ep,h.get? a=some o∧o.ExactDict∧o.data=.dict es ep∧es.toList=xs.map (entryOfKey (tupleKind (ZaT P w)))∧(xs.map (·.1)).Nodup
 | .set S n=>h.SetOf (intKind P w) a S n
 | .ins C dx fs=>H dx=some (.own a)∧fs.length≤1000∧dx≠a∧h.get? a=some (PySem.W.instObj C dx) ∧
   ∃mA,h.Ns1 dx mA∧(∀f,RelO (fs.lookup f) (mA f))∧PySem.Within mA (fs.map (·.1))
 | .own _=>∃o,h.get? a=some o
 | .xd fs=>∃mA,h.Ns1 a mA∧∀f,RelO (fs.lookup f) (mA f)
 | .rng lo hi=>∃t u v,h.get? a=some { cls:=.type "range",data:=.fields #[.int lo t,.int hi u,.int 1 v] }
 | .frz o u=>h.get? a=some o∧ObjOk H h a u
 | .tbl ps=>h.get? a=some { cls:=.none,data:=.fields ps }
 | .met f x=>h.get? a=some (PySem.W.methodObj (.ref f) (.ref x))
 | .ext φ=>φ h∧(∃o,h.get? a=some o)∧∀h1 h2:Heap,φ h1→(∀o,h1.get? a=some o→h2.get? a=some o)→φ h2
def HOk (H:Hp)(h:Heap):Prop:=∀a o,H a=some o→ObjOk P w H h a o
end
section
variable {P:Program}{w:World}{H H':Hp}{h h':Heap}{a:Addr}{o:HO}
theorem ObjOk.lt (x:ObjOk P w H h a o):a<h.objs.size:=by
 cases o with
 | lst xs=>obtain⟨_,_,_,_,e⟩:=x;exact Heap.lt_size e
 | tup xs=>obtain⟨_,_,_,p⟩:=x;exact p.lt
 | dK kvs=>obtain⟨_,_,_,_,o,_,_,e,_⟩:=x;exact Heap.lt_size e
 | dT kvs=>obtain⟨_,_,_,_,o,_,_,e,_⟩:=x;exact Heap.lt_size e
 | set S n=>obtain⟨o,_,_,_,e,_⟩:=x;exact Heap.lt_size e
 | ins C dx fs=>obtain⟨_,_,_,e,_⟩:=x;exact Heap.lt_size e
 | own y=>obtain⟨_,e⟩:=x;exact Heap.lt_size e
 | xd fs=>obtain⟨_,⟨_,_,_,e,_⟩,_⟩:=x;exact Heap.lt_size e
 | rng lo hi=>obtain⟨_,_,_,e⟩:=x;exact Heap.lt_size e
 | frz ob u=>obtain⟨e,_⟩:=x;exact Heap.lt_size e
 | tbl ps=>exact Heap.lt_size (show h.get? a=some _ from x)
 | met f y=>exact Heap.lt_size (show h.get? a=some _ from x)
 | ext φ=>obtain⟨_,⟨_,e⟩,_⟩:=x;exact Heap.lt_size e
theorem Paired.mapP {α β:Type}{F G:α→β→Prop}:∀ {l₁:List α} {l₂:List β},Paired F l₁ l₂→(∀a b,F a b→G a b)→Paired G l₁ l₂
 | _,_,.nil,_=>.nil
 | _,_,.cons r t,f=>.cons (f _ _ r) (Paired.mapP t f)
theorem ObjOk.stay (x:ObjOk P w H h a o)(k:∀b u,(b=a∨H b=some (.own a))→h.get? b=some u→h'.get? b=some u)
  (ho:∀b,H b=some (.own a)→H' b=some (.own a)) (ht:∀b xs,H b=some (.tup xs)→H' b=some (.tup xs)):ObjOk P w H' h' a o:=by
 induction o with
 | lst xs=>obtain⟨z,its,n,r,e⟩:=x;exact⟨z,its,n,r,k _ _ (.inl rfl) e⟩
 | tup xs=>obtain⟨z,its,r,ob,e,c⟩:=x;exact⟨z,its,r,ob,k _ _ (.inl rfl) e,c⟩
 | dK kvs=>obtain⟨z,y,vs,r,ob,es,ep,e,c⟩:=x;exact⟨z,y,vs,r,ob,es,ep,k _ _ (.inl rfl) e,c⟩
 | dT kvs=>
  obtain⟨z,y,xs,r,ob,es,ep,e,c⟩:=x
  exact⟨z,y,xs,Paired.mapP r fun p q z=>⟨z.1,ht _ _ z.2.1,z.2.2⟩,ob,es,ep,k _ _ (.inl rfl) e,c⟩
 | set S n=>obtain⟨ob,es,ep,t,e,c⟩:=x;exact⟨ob,es,ep,t,k _ _ (.inl rfl) e,c⟩
 | ins C dx fs=>
  obtain⟨d,z,ne,e,mA,⟨od,es,ep,e2,c⟩,r⟩:=x
  exact⟨ho _ d,z,ne,k _ _ (.inl rfl) e,mA,⟨od,es,ep,k _ _ (.inr d) e2,c⟩,r⟩
 | own y=>obtain⟨ob,e⟩:=x;exact⟨ob,k _ _ (.inl rfl) e⟩
 | xd fs=>obtain⟨mA,⟨od,es,ep,e,c⟩,r⟩:=x;exact⟨mA,⟨od,es,ep,k _ _ (.inl rfl) e,c⟩,r⟩
 | rng lo hi=>obtain⟨t,u,v,e⟩:=x;exact⟨t,u,v,k _ _ (.inl rfl) e⟩
 | frz ob u ih=>obtain⟨e,q⟩:=x;exact⟨k _ _ (.inl rfl) e,ih q⟩
 | tbl ps=>
  have e:h.get? a=some { cls:=.none,data:=.fields ps }:=x
  show h'.get? a=some { cls:=.none,data:=.fields ps }
  exact k a _ (.inl rfl) e
 | met f y=>
  have e:h.get? a=some (PySem.W.methodObj (.ref f) (.ref y)):=x
  show h'.get? a=some (PySem.W.methodObj (.ref f) (.ref y))
  exact k a _ (.inl rfl) e
 | ext φ=>obtain⟨p,⟨o,e⟩,st⟩:=x;exact⟨st _ _ p fun o q=>k _ _ (.inl rfl) q,⟨o,k _ _ (.inl rfl) e⟩,st⟩
theorem HOk.lt (x:HOk P w H h)(e:H a=some o):a<h.objs.size:=(x a o e).lt
theorem HOk.fresh (x:HOk P w H h)(e:h.objs.size≤a):H a=none:=by
 cases q:H a with
 | none=>rfl
 | some u=>exact absurd (Nat.lt_of_lt_of_le (x.lt q) e) (Nat.lt_irrefl _)
theorem HOk.kept (x:HOk P w H h)(k:∀b u,h.get? b=some u→h'.get? b=some u):HOk P w H h':=fun a o e=>
 (x a o e).stay (fun b u _ q=>k b u q) (fun _ q=>q) fun _ _ q=>q
theorem HOk.laid (x:HOk P w H h)(k:∀b u,h.get? b=some u→h'.get? b=some u)(hp:h.objs.size≤a)(new:ObjOk P w (upd H a o) h' a o):HOk P w (upd H a o) h':=fun b u e=>by
 have hn:=x.fresh hp
 by_cases hb:b=a
 ·subst hb;rw[ZaH]at e;cases e;exact new
 ·rw[Zau hb]at e
  exact(x b u e).stay (fun c v _ q=>k c v q) (fun c q=>by rw[Zau (Zap q hn)];exact q) fun c xs q=>by rw[Zau (Zap q hn)];exact q
end
def Rd (H:Hp)(a:Addr)(u:HO):Prop:=H a=some u∨∃o,H a=some (.frz o u)
theorem Rd.ok {P:Program}{w:World}{H:Hp}{h:Heap}{a:Addr}{u:HO}(r:Rd H a u)(x:HOk P w H h):ObjOk P w H h a u:=by
 rcases r with r | ⟨o,r⟩
 ·exact x a u r
 ·obtain⟨_,q⟩:=x a _ r
  exact q
def Mut:Option HO→Prop
 | some (.lst _)=>True
 | some (.dK _)=>True
 | some (.dT _)=>True
 | some (.set _ _)=>True
 | some (.ins _ _ _)=>True
 | some (.ext _)=>True
 | _=>False
section
variable {P:Program}{w:World}{H:Hp}{h h':Heap}{x e:Addr}{o':HO}
theorem HOk.write (ok:HOk P w H h)(mu:Mut (H x))(he:e=x∨H e=some (.own x))(k:∀b u,b≠e→h.get? b=some u→h'.get? b=some u)(heo:∃u,h'.get? e=some u)
  (new:ObjOk P w (upd H x o') h' x o'):HOk P w (upd H x o') h':=fun b u q=>by
 have nown:∀c y,H c=some (.own y)→c≠x:=fun c y r z=>by subst z;rw[r]at mu;exact mu
 have ntup:∀c xs,H c=some (.tup xs)→c≠x:=fun c xs r z=>by subst z;rw[r]at mu;exact mu
 by_cases hb:b=x
 ·subst hb;rw[ZaH]at q;cases q;exact new
 ·rw[Zau hb]at q
  by_cases hbe:b=e
  ·have q':H b=some (.own x):=by
    rcases he with z | z
    ·exact absurd (hbe.trans z) hb
    ·rw[hbe];exact z
   rw[q]at q';cases q'
   obtain⟨v,hv⟩:=heo
   exact⟨v,by rw[hbe];exact hv⟩
  ·refine(ok b u q).stay (fun c v hc r=>k c v ?_ r) (fun c r=>by rw[Zau (nown c b r)];exact r) fun c xs r=>by rw[Zau (ntup c xs r)];exact r
   rcases hc with rfl | hc
   ·exact hbe
   ·rintro rfl
    rcases he with z | z
    ·exact nown c b hc z
    ·rw[hc]at z;cases z;exact hb rfl
end
structure Un (fs ex:List Addr)(H H':Hp)(h h':Heap):Prop where
 keep:∀b o,h.get? b=some o→H b=none→b∉fs→b∉ex→h'.get? b=some o
 slot:∀b o,h.get? b=some o→H b=none→b∈fs→b∉ex→∃sl,h'.get? b=some { o with slots:=sl }
 free:∀b o,h.get? b=some o→H b=none→b∉ex→H' b=none
 there:∀b o,h.get? b=some o→b∉ex→∃o',h'.get? b=some o'
 tups:∀b xs,H b=some (.tup xs)→H' b=some (.tup xs)
 frzs:∀b o u,H b=some (.frz o u)→H' b=some (.frz o u)
 tbls:∀b ps,H b=some (.tbl ps)→∃more,H' b=some (.tbl (ps++more))
section
variable {fs fs' ex ex':List Addr}{H H1 H2:Hp}{h h1 h2 h':Heap}{a x e:Addr}{o:HO}
theorem Un.any (u:Un fs ex H H1 h h1){b:Addr}{ob:Obj}(q:h.get? b=some ob)(n:H b=none)(hx:b∉ex):∃sl,h1.get? b=some { ob with slots:=sl }:=by
 by_cases hb:b∈fs
 ·exact u.slot b ob q n hb hx
 ·exact⟨ob.slots,u.keep b ob q n hb hx⟩
theorem Un.trans (a:Un fs ex H H1 h h1)(b:Un fs ex H1 H2 h1 h2):Un fs ex H H2 h h2 where
 keep:=fun c ob q n hc hx=>b.keep c ob (a.keep c ob q n hc hx) (a.free c ob q n hx) hc hx
 slot:=fun c ob q n hc hx=>by
  obtain⟨sl,e1⟩:=a.slot c ob q n hc hx
  obtain⟨sl',e2⟩:=b.slot c _ e1 (a.free c ob q n hx) hc hx
  exact⟨sl',e2⟩
 free:=fun c ob q n hx=>by
  obtain⟨o',e1⟩:=a.there c ob q hx
  exact b.free c o' e1 (a.free c ob q n hx) hx
 there:=fun c ob q hx=>by
  obtain⟨o',e1⟩:=a.there c ob q hx
  exact b.there c o' e1 hx
 tups:=fun c xs q=>b.tups c xs (a.tups c xs q)
 frzs:=fun c ob xs q=>b.frzs c ob xs (a.frzs c ob xs q)
 tbls:=fun c ps q=>by
  obtain⟨m1,e1⟩:=a.tbls c ps q
  obtain⟨m2,e2⟩:=b.tbls c _ e1
  exact⟨m1++m2,by rw[e2,Array.append_assoc]⟩
theorem Un.kept (k:∀b u,h.get? b=some u→h'.get? b=some u):Un fs ex H H h h':=
 ⟨fun b ob q _ _ _=>k b ob q,fun b ob q _ _ _=>⟨ob.slots,k b ob q⟩,fun _ _ _ n _=>n,fun b ob q _=>⟨ob,k b ob q⟩,fun _ _ q=>q,fun _ _ _ q=>q,fun _ ps q=>⟨#[],by rw[q];simp⟩⟩
theorem Un.refl:Un fs ex H H h h:=Un.kept fun _ _ q=>q
theorem Un.laid (k:∀b u,h.get? b=some u→h'.get? b=some u)(hp:h.objs.size≤a)(hn:H a=none):Un fs ex H (upd H a o) h h' where
 keep:=fun b u q _ _ _=>k b u q
 slot:=fun b u q _ _ _=>⟨u.slots,k b u q⟩
 free:=fun b u q n _=>by rw[Zau (Nat.ne_of_lt (Nat.lt_of_lt_of_le (Heap.lt_size q) hp))];exact n
 there:=fun b u q _=>⟨u,k b u q⟩
 tups:=fun b xs q=>by rw[Zau (Zap q hn)];exact q
 frzs:=fun b u xs q=>by rw[Zau (Zap q hn)];exact q
 tbls:=fun b ps q=>⟨#[],by rw[Zau (Zap q hn),q];simp⟩
theorem Un.write (mu:Mut (H x))(he:e=x∨H e=some (.own x))(k:∀b u,b≠e→h.get? b=some u→h'.get? b=some u)(heo:∃u,h'.get? e=some u):Un fs ex H (upd H x o) h h':=by
 have hx:∀b,H b=none→b≠x:=fun b n z=>by subst z;rw[n]at mu;exact mu
 have hb:∀b,H b=none→b≠e:=fun b n z=>by
  subst z
  rcases he with r | r
  ·exact hx b n r
  ·rw[n]at r;cases r
 have hm:∀b u,H b=some u→¬Mut (some u)→b≠x:=fun b u q nm z=>by subst z;rw[q]at mu;exact nm mu
 refine⟨fun b u q n _ _=>k b u (hb b n) q,fun b u q n _ _=>⟨u.slots,k b u (hb b n) q⟩,fun b u q n _=>by rw[Zau (hx b n)];exact n,fun b u q _=>?_,
  fun b xs q=>by rw[Zau (hm b _ q fun z=>z)];exact q,fun b u xs q=>by rw[Zau (hm b _ q fun z=>z)];exact q,fun b ps q=>⟨#[],by rw[Zau (hm b _ q fun z=>z),q];simp⟩⟩
 by_cases hbe:b=e
 ·subst hbe;exact heo
 ·exact⟨u,k b u hbe q⟩
end
def trk (h:Heap)(H:Hp):List Addr:=(List.range h.objs.size).filter fun a=>(H a).isSome
def hidT (h:Heap)(H:Hp):Heap:=PySem.W.hideAll h (trk h H)
theorem ZgD (h:Heap)(H:Hp):(hidT h H).objs.size=h.objs.size:=PySem.W.hideAll_size _ _
theorem Zhy {h:Heap}{H:Hp}{b:Addr}{o:Obj}(e:h.get? b=some o)(n:H b=none):(hidT h H).get? b=some o:=
 PySem.W.hideAll_get _ e fun hm=>by
  have q:(H b).isSome=true:=(List.mem_filter.mp hm).2
  rw[n]at q;simp at q
theorem Ziv {h:Heap}{H:Hp}{b:Addr}{o:Obj}(e:(hidT h H).get? b=some o):h.get? b=some o∧H b=none:=by
 have e':h.get? b=some o:=PySem.W.of_hideAll (trk h H) e
 refine⟨e',?_⟩
 cases q:H b with
 | none=>rfl
 | some x=>
  have hm:b∈trk h H:=List.mem_filter.mpr ⟨List.mem_range.mpr (Heap.lt_size e'),by simp[q]⟩
  have z:(hidT h H).get? b=none:=PySem.W.hideAll_none (trk h H) hm
  rw[z]at e;cases e
def Zi2 (g h:Heap)(L:Addr):List (Addr×Obj):=(List.range h.objs.size).filterMap fun a=>if a=L∨(g.get? a).isSome=true then none else (h.get? a).map fun o=>(a,o)
def rest (g h:Heap)(L d:Addr):List (Addr×Obj):=(Zi2 g h L).filter fun p=>decide (p.1≠d)
structure Mod (K:PySem.W.Frag)(mg:Str→Option Value)(base:Heap):Prop where
 kin:K.In base
 glob:base.Ns mainGlobals mg
 blt:∃mb,base.Ns builtinsNs mb∧∀x:Str,x≠"__name__"→mb x=bootBuiltins x
 nolimit:base.NoLimit
structure Cx where
 prog:Program
 w:World
 K:PySem.W.Frag
 mg:Str→Option Value
 base:Heap
 A:Around
 N:List Str
 s₀:Shared
 H₀:Hp
 env:Env
 outer:List Env
 stack:List Env
 ex:List Addr
 fn:Str→Bool
 calm:Bool
 pn:List (Addr×Obj)
 xe:Value→Shared→Prop
def frs (l:List Env):List Addr:=l.filterMap (·.frame)
abbrev Cx.fs (X:Cx):List Addr:=frs X.outer
def Vis (sc:Scope)(x:Str):Prop:=sc.names.lookup x=some .local∨sc.names.lookup x=some .cell∨sc.names.lookup x=some .free
def Loc (sc:Scope)(x:Str):Prop:=sc.names.lookup x=some .local∨sc.names.lookup x=some .cell
def Look (env:Env)(h:Heap)(m:Str→Option Value)(x:Str)(u:Value):Prop:=
 (env.kindOf x=some .local∧m x=some u)∨((env.kindOf x=some .cell∨env.kindOf x=some .free)∧∃c,env.cells.lookup x=some c∧h.IsCell c (some u))
structure Cx.Ok (X:Cx):Prop where
 mod:Mod X.K X.mg X.base
 kind:X.env.scope.kind=.function
 glob:X.env.globals=mainGlobals
 blt:X.env.builtins=builtinsNs
 above:X.s₀.heap.objs.size≤X.env.locals
 inj:∀x y c,X.env.cells.lookup x=some c→X.env.cells.lookup y=some c→x=y
 has:∀x,(X.env.kindOf x=some .cell∨X.env.kindOf x=some .free)→∃c,X.env.cells.lookup x=some c
 cab:∀x c,X.fn x=true→X.env.cells.lookup x=some c→X.s₀.heap.objs.size≤c
 hd:X.calm=true→X.A.handled=none
 frames:X.A.frames=some X.stack
 stk:X.stack=X.outer∨(X.stack=X.env::X.outer∧X.env.frame=some X.env.locals)
 exf:∀b∈X.ex,b≠X.env.locals∧∀x c,X.env.cells.lookup x=some c→c≠b
 bs:∀b o,X.base.get? b=some o→X.s₀.heap.get? b=some o∧X.H₀ b=none
 bsz:X.base.objs.size≤X.s₀.heap.objs.size
 noex:∀b o,X.base.get? b=some o→b∉X.ex
 exfs:∀b∈X.ex,b∉X.fs
 funs:X.s₀.heap.FunFrames X.base X.outer
 frf:∀b∈X.fs,X.H₀ b=none
structure Inv (X:Cx)(pins:List (Addr×Obj))(σ:List (Option V))(H:Hp)(s:Shared):Prop where
 ok:X.Ok
 os:s.os=X.s₀.os
 bare:AllBare s.gens
 base:Un X.fs X.ex X.H₀ H X.s₀.heap s.heap
 loc:∃m,s.heap.Ns X.env.locals m∧∀(i:Nat) (x:Str) (v:V),X.N[i]?=some x→σ[i]?=some (some v)→Vis X.env.scope x→∃u,RelV v u∧Look X.env s.heap m x u
 cell:∀x c,X.env.cells.lookup x=some c→∃v,s.heap.IsCell c v
 free:H X.env.locals=none
 freeC:∀x c,X.env.cells.lookup x=some c→H c=none
 pin:∀p∈X.pn++pins,s.heap.get? p.1=some p.2∧H p.1=none∧p.1≠X.env.locals∧p.1∉X.fs∧∀v,p.2.data≠.cell v
 hok:HOk X.prog X.w H s.heap
 len:σ.length=X.N.length
section
variable {X:Cx}{pins:List (Addr×Obj)}{σ:List (Option V)}{H H':Hp}{s:Shared}{h':Heap}
theorem Cx.Ok.nofr (ok:X.Ok){b:Addr}{o:Obj}(e:X.base.get? b=some o):b∉X.fs:=fun hb=>by
 have:=(ok.funs.mem hb).1
 rw[e]at this;cases this
theorem Inv.bs (I:Inv X pins σ H s):∀b o,X.base.get? b=some o→s.heap.get? b=some o∧H b=none:=fun b o e=>
 ⟨I.base.keep b o (I.ok.bs b o e).1 (I.ok.bs b o e).2 (I.ok.nofr e) (I.ok.noex b o e),I.base.free b o (I.ok.bs b o e).1 (I.ok.bs b o e).2 (I.ok.noex b o e)⟩
theorem Inv.bk (I:Inv X pins σ H s):∀b o,X.base.get? b=some o→s.heap.get? b=some o:=fun b o e=>(I.bs b o e).1
theorem Inv.mod (I:Inv X pins σ H s):Mod X.K X.mg X.base:=I.ok.mod
theorem Inv.kIn (I:Inv X pins σ H s):X.K.In s.heap:=I.ok.mod.kin.keeps I.bk
theorem Inv.lt (I:Inv X pins σ H s):X.env.locals<s.heap.objs.size:=let ⟨_,hn,_⟩:=I.loc;hn.lt
theorem Inv.sz (I:Inv X pins σ H s):X.s₀.heap.objs.size≤s.heap.objs.size:=Nat.le_trans I.ok.above (Nat.le_of_lt I.lt)
theorem Inv.nofs (I:Inv X pins σ H s){a:Addr}(h:s.heap.objs.size≤a):a∉X.fs:=fun hb=>by
 obtain⟨_,o,ho,_⟩:=I.ok.funs.mem hb
 exact absurd (Nat.lt_of_lt_of_le (Heap.lt_size ho) (Nat.le_trans I.sz h)) (Nat.lt_irrefl _)
theorem Inv.cne (I:Inv X pins σ H s):∀x c,X.env.cells.lookup x=some c→c≠X.env.locals:=fun x c e z=>by
 obtain⟨v,o,ho,hd⟩:=I.cell x c e
 obtain⟨m,⟨o',es,ep,ho',hd',_⟩,_⟩:=I.loc
 rw[z,ho']at ho;cases ho;rw[hd']at hd;cases hd
theorem Inv.funs (I:Inv X pins σ H s):s.heap.FunFrames X.base X.outer:=by
 have all:∀(l:List Env),(∀b∈frs l,b∈X.fs)→X.s₀.heap.FunFrames X.base l→s.heap.FunFrames X.base l:=by
  intro l
  induction l with
  | nil=>intro _ _;trivial
  | cons env r ih=>
   intro hs hl
   obtain⟨hk,⟨L,o,hf,hn,ho,hd⟩,hr⟩:=hl
   have hL:L∈X.fs:=hs L (by unfold frs;rw[List.filterMap_cons,hf];exact List.mem_cons_self)
   obtain⟨sl,e⟩:=I.base.slot L o ho (I.ok.frf L hL) hL fun z=>I.ok.exfs L z hL
   exact⟨hk,⟨L,_,hf,hn,e,hd⟩,ih (fun b hb=>hs b (by unfold frs;rw[List.filterMap_cons,hf];exact List.mem_cons_of_mem _ hb)) hr⟩
 exact all X.outer (fun _ hb=>hb) I.ok.funs
theorem Inv.stack (I:Inv X pins σ H s):s.heap.FunFrames X.base X.stack:=by
 rcases I.ok.stk with e | ⟨e,hf⟩
 ·rw[e];exact I.funs
 ·rw[e]
  obtain⟨m,hn,_⟩:=I.loc
  refine .cons (by rw[I.ok.kind];decide) hf hn ?_ I.funs
  exact Heap.get?_none_of_le (Nat.le_trans I.ok.bsz I.ok.above)
theorem Inv.stkSub (I:Inv X pins σ H s):∀b∈frs X.stack,b∈X.env.locals::X.fs:=fun b hb=>by
 rcases I.ok.stk with e | ⟨e,hf⟩
 ·rw[e]at hb;exact List.mem_cons_of_mem _ hb
 ·rw[e]at hb
  unfold frs at hb
  rw[List.filterMap_cons,hf]at hb
  exact hb
theorem Inv.stkFree (I:Inv X pins σ H s):∀b∈frs X.stack,H b=none:=fun b hb=>by
 rcases List.mem_cons.mp (I.stkSub b hb) with e | hb
 ·rw[e];exact I.free
 ·obtain⟨_,o,ho,_⟩:=I.ok.funs.mem hb
  exact I.base.free b o ho (I.ok.frf b hb) fun z=>I.ok.exfs b z hb
theorem Inv.step {g':Array GenState}{t':Nat}{d':Drawn}{ch:List Addr}(I:Inv X pins σ H s)
  (hch:∀b∈ch,(b∈X.ex∨X.s₀.heap.objs.size≤b)∧b≠X.env.locals∧(∀x c,X.env.cells.lookup x=some c→c≠b)∧∀p∈X.pn++pins,p.1≠b)
  (keep:∀b o,b≠X.env.locals→b∉X.fs→b∉ch→s.heap.get? b=some o→H b=none→h'.get? b=some o)
  (slot:∀b o,b≠X.env.locals→b∈X.fs→b∉ch→s.heap.get? b=some o→H b=none→∃sl,h'.get? b=some { o with slots:=sl }) (free:∀b o,b∉ch→s.heap.get? b=some o→H b=none→H' b=none)
  (there:∀b o,b∉ch→s.heap.get? b=some o→∃o',h'.get? b=some o')
  (tups:∀b xs,H b=some (.tup xs)→H' b=some (.tup xs)) (frzs:∀b o u,H b=some (.frz o u)→H' b=some (.frz o u)) (tbls:∀b ps,H b=some (.tbl ps)→∃more,H' b=some (.tbl (ps++more)))
  (ns:∀m,s.heap.Ns X.env.locals m→h'.Ns X.env.locals m) (hok:HOk X.prog X.w H' h') (hg:AllBare g'):
  Inv X pins σ H' { s with heap:=h',gens:=g',drawn:=d',toks:=t' }:=by
 have neL:∀b o,X.s₀.heap.get? b=some o→b≠X.env.locals:=fun b o e=>Nat.ne_of_lt (Nat.lt_of_lt_of_le (Heap.lt_size e) I.ok.above)
 have neC:∀b o,X.s₀.heap.get? b=some o→b∉X.ex→b∉ch:=fun b o e hx hb=>by
  rcases (hch b hb).1 with z | z
  ·exact hx z
  ·exact absurd (Nat.lt_of_lt_of_le (Heap.lt_size e) z) (Nat.lt_irrefl _)
 have cellK:∀x c,X.env.cells.lookup x=some c→∀v,s.heap.IsCell c v→h'.IsCell c v:=fun x c e v ⟨o,ho,hd⟩=>by
  have nch:c∉ch:=fun z=>(hch c z).2.2.1 x c e rfl
  by_cases hc:c∈X.fs
  ·obtain⟨sl,q⟩:=slot c o (I.cne x c e) hc nch ho (I.freeC x c e)
   exact⟨_,q,hd⟩
  ·exact⟨o,keep c o (I.cne x c e) hc nch ho (I.freeC x c e),hd⟩
 refine⟨I.ok,I.os,hg,⟨fun b o e n hb hx=>?_,fun b o e n hb hx=>?_,fun b o e n hx=>?_,fun b o e hx=>?_,fun b xs e=>tups b xs (I.base.tups b xs e),fun b o xs e=>frzs b o xs (I.base.frzs b o xs e),fun b ps e=>?_⟩,?_,fun x c e=>?_,?_,fun x c e=>?_,fun p hp=>?_,hok,I.len⟩
 ·exact keep b o (neL b o e) hb (neC b o e hx) (I.base.keep b o e n hb hx) (I.base.free b o e n hx)
 ·obtain⟨sl,e1⟩:=I.base.slot b o e n hb hx
  obtain⟨sl',e2⟩:=slot b _ (neL b o e) hb (neC b o e hx) e1 (I.base.free b o e n hx)
  exact⟨sl',e2⟩
 ·obtain⟨o',e1⟩:=I.base.there b o e hx
  exact free b o' (neC b o e hx) e1 (I.base.free b o e n hx)
 ·obtain⟨o',e1⟩:=I.base.there b o e hx
  exact there b o' (neC b o e hx) e1
 ·obtain⟨m1,e1⟩:=I.base.tbls b ps e
  obtain⟨m2,e2⟩:=tbls b _ e1
  exact⟨m1++m2,by rw[e2,Array.append_assoc]⟩
 ·obtain⟨m,hn,hl⟩:=I.loc
  refine⟨m,ns m hn,fun i x v e1 e2 e3=>?_⟩
  obtain⟨u,r,l⟩:=hl i x v e1 e2 e3
  refine⟨u,r,?_⟩
  rcases l with l | ⟨k,c,e,z⟩
  ·exact .inl l
  ·exact .inr ⟨k,c,e,cellK x c e _ z⟩
 ·obtain⟨v,z⟩:=I.cell x c e
  exact⟨v,cellK x c e v z⟩
 ·obtain⟨m,⟨o,_,_,ho,_⟩,_⟩:=I.loc
  exact free _ o (fun z=>(hch _ z).2.1 rfl) ho I.free
 ·obtain⟨v,o,ho,hd⟩:=I.cell x c e
  exact free c o (fun z=>(hch c z).2.2.1 x c e rfl) ho (I.freeC x c e)
 ·obtain⟨e,n,ne,nf,d⟩:=I.pin p hp
  have nch:p.1∉ch:=fun z=>(hch p.1 z).2.2.2 p hp rfl
  exact⟨keep p.1 p.2 ne nf nch e n,free p.1 p.2 nch e n,ne,nf,d⟩
theorem Inv.un {t':Nat}(I:Inv X pins σ H s)(u:Un X.fs [] H H' s.heap h')(hok:HOk X.prog X.w H' h'):Inv X pins σ H' { s with heap:=h',toks:=t' }:=by
 obtain⟨m,⟨o,es,ep,ho,r⟩,_⟩:=id I.loc
 obtain⟨sl,hL⟩:=u.any ho I.free (by simp)
 exact I.step (g':=s.gens) (d':=s.drawn) (ch:=[]) (fun _ z=>nomatch z) (fun b o _ hb _ e n=>u.keep b o e n hb (by simp)) (fun b o _ hb _ e n=>u.slot b o e n hb (by simp)) (fun b o _ e n=>u.free b o e n (by simp)) (fun b o _ e=>u.there b o e (by simp)) u.tups u.frzs u.tbls (fun m' hm=>by
  obtain⟨o',es',ep',ho',r'⟩:=hm
  rw[ho]at ho';cases ho'
  exact⟨_,es',ep',hL,r'⟩) hok I.bare
theorem Inv.call {g':Array GenState}{t':Nat}{d':Drawn}{ch:List Addr}(I:Inv X pins σ H s)(u:Un (frs X.stack) ch H H' s.heap h')(hok:HOk X.prog X.w H' h')(hg:AllBare g')
  (hch:∀b∈ch,(b∈X.ex∨X.s₀.heap.objs.size≤b)∧b≠X.env.locals∧(∀x c,X.env.cells.lookup x=some c→c≠b)∧∀p∈X.pn++pins,p.1≠b):
  Inv X pins σ H' { s with heap:=h',gens:=g',drawn:=d',toks:=t' }:=by
 obtain⟨m,⟨o,es,ep,ho,r⟩,_⟩:=id I.loc
 obtain⟨sl,hL⟩:=u.any ho I.free fun z=>(hch _ z).2.1 rfl
 exact I.step (ch:=ch) hch (fun b o hL hb hc e n=>u.keep b o e n (fun z=>(List.mem_cons.mp (I.stkSub b z)).elim hL hb) hc) (fun b o _ _ hc e n=>u.any e n hc) (fun b o hc e n=>u.free b o e n hc) (fun b o hc e=>u.there b o e hc) u.tups u.frzs u.tbls (fun m' hm=>by
  obtain⟨o',es',ep',ho',r'⟩:=hm
  rw[ho]at ho';cases ho'
  exact⟨_,es',ep',hL,r'⟩) hok hg
theorem Inv.turned {t':Nat}{it:Addr}(I:Inv X pins σ H s)(k:∀b o,b≠it→s.heap.get? b=some o→h'.get? b=some o)(hn:H it=none)(hL:it≠X.env.locals)
  (h1:it∈X.ex∨X.s₀.heap.objs.size≤it) (h2:∀x c,X.env.cells.lookup x=some c→c≠it) (h3:∀p∈X.pn++pins,p.1≠it):Inv X pins σ H { s with heap:=h',toks:=t' }:=by
 have nit:∀b u,H b=some u→b≠it:=fun b u e z=>by rw[z,hn]at e;cases e
 refine I.step (g':=s.gens) (d':=s.drawn) (ch:=[it]) (fun b hb=>?_) (fun b o _ _ hc e _=>k b o (fun z=>hc (by simp[z])) e) (fun b o _ _ hc e _=>⟨o.slots,k b o (fun z=>hc (by simp[z])) e⟩) (fun _ _ _ _ n=>n)
  (fun b o hc e=>⟨o,k b o (fun z=>hc (by simp[z])) e⟩) (fun _ _ e=>e) (fun _ _ _ e=>e) (fun b ps e=>⟨#[],by rw[e];simp⟩) (fun m hm=>?_) (fun b u e=>?_) I.bare
 ·have e:b=it:=by simpa using hb
  subst e
  exact⟨h1,hL,h2,h3⟩
 ·obtain⟨o,es,ep,ho,r⟩:=hm
  exact⟨o,es,ep,k _ o (Ne.symm hL) ho,r⟩
 ·refine(I.hok b u e).stay (fun c v hc q=>k c v ?_ q) (fun _ q=>q) fun _ _ q=>q
  rcases hc with z | z
  ·rw[z];exact nit b u e
  ·exact nit c _ z
theorem Inv.tok (I:Inv X pins σ H s)(t:Nat):Inv X pins σ H { s with toks:=t }:=I.un (h':=s.heap) (t':=t) Un.refl I.hok
theorem Inv.kept {t':Nat}(I:Inv X pins σ H s)(k:∀b u,s.heap.get? b=some u→h'.get? b=some u):Inv X pins σ H { s with heap:=h',toks:=t' }:=I.un (Un.kept k) (I.hok.kept k)
theorem Inv.laid {a:Addr}{o:HO}{t':Nat}(I:Inv X pins σ H s)(k:∀b u,s.heap.get? b=some u→h'.get? b=some u)(hp:s.heap.objs.size≤a)(new:ObjOk X.prog X.w (upd H a o) h' a o):
  Inv X pins σ (upd H a o) { s with heap:=h',toks:=t' }:=I.un (Un.laid k hp (I.hok.fresh hp)) (I.hok.laid k hp new)
theorem Inv.write {x e:Addr}{o:HO}{t':Nat}(I:Inv X pins σ H s)(mu:Mut (H x))(he:e=x∨H e=some (.own x))(k:∀b u,b≠e→s.heap.get? b=some u→h'.get? b=some u)(heo:∃u,h'.get? e=some u)
  (new:ObjOk X.prog X.w (upd H x o) h' x o):Inv X pins σ (upd H x o) { s with heap:=h',toks:=t' }:=I.un (Un.write mu he k heo) (I.hok.write mu he k heo new)
theorem Inv.pins_of {pins':List (Addr×Obj)}(I:Inv X pins σ H s)(h:∀p∈pins',s.heap.get? p.1=some p.2∧H p.1=none∧p.1≠X.env.locals∧p.1∉X.fs∧∀v,p.2.data≠.cell v):Inv X pins' σ H s:=
 ⟨I.ok,I.os,I.bare,I.base,I.loc,I.cell,I.free,I.freeC,fun p hp=>(List.mem_append.mp hp).elim (fun z=>I.pin p (List.mem_append_left _ z)) (h p),I.hok,I.len⟩
theorem Zdv {N:List Str}(hN:N.Nodup){i j:Nat}{x:Str}(a:N[i]?=some x)(b:N[j]?=some x):i=j:=by
 obtain⟨h1,e1⟩:=List.getElem?_eq_some_iff.mp a
 obtain⟨h2,e2⟩:=List.getElem?_eq_some_iff.mp b
 exact(List.getElem_inj hN).mp (e1.trans e2.symm)
theorem ZdO {M:Model}{A:Around}{E:Value→Shared→Prop}{i:Nat}{x:Str}{v:V}{u:Value}{Q:Unit→Shared→Prop}(I:Inv X pins σ H s)(hN:X.N.Nodup)(hi:X.N[i]?=some x)(hx:Loc X.env.scope x)(r:RelV v u)
  (h:∀s',Inv X pins (σ.set i (some v)) H s'→(∃a,Heap.SameBut a s.heap s'.heap∧(a=X.env.locals∨X.env.cells.lookup x=some a))→Q () s') (hf:X.fn x=true∨X.env.scope.names.lookup x=some .local:=by first | exact .inl rfl | exact .inr rfl | assumption):wpAny M A (storeName X.env x u) Q E s:=by
 obtain⟨m,hn,hl⟩:=id I.loc
 have hcls:(X.env.scope.kind == .class || (X.env.scope.kind == .module&&X.env.locals != X.env.globals))=false:=by rw[I.ok.kind];rfl
 have hiσ:i<σ.length:=by rw[I.len];exact(List.getElem?_eq_some_iff.mp hi).1
 have cne:=I.cne
 have tracked:∀ {a:Addr} {h':Heap},(∃o,s.heap.get? a=some o∧H a=none)→Heap.SameBut a s.heap h'→HOk X.prog X.w H h':=fun {a h'} ha hs b ob e=>by
  obtain⟨_,_,hfree⟩:=ha
  refine(I.hok b ob e).stay (fun c w' hc q=>(hs.2 c ?_).trans q) (fun _ q=>q) fun _ _ q=>q
  rintro rfl
  rcases hc with rfl | hc
  ·rw[hfree]at e;cases e
  ·rw[hfree]at hc;cases hc
 rcases hx with hk | hk
 ·refine wpAny_storeName_local hk hn (fun h' hn' hs=>?_) hcls
  obtain⟨oL,_,_,hoL,_⟩:=id hn
  refine h _ ⟨I.ok,I.os,I.bare,⟨fun b o e n hb hx=>?_,fun b o e n hb hx=>?_,I.base.free,fun b o e hx=>?_,I.base.tups,I.base.frzs,I.base.tbls⟩,⟨_,hn',fun j y v' e1 e2 e3=>?_⟩,fun y c e=>?_,I.free,I.freeC,fun p hp=>?_,tracked ⟨oL,hoL,I.free⟩ hs,by simpa using I.len⟩ ⟨_,hs,.inl rfl⟩
  ·exact(hs.2 b (Nat.ne_of_lt (Nat.lt_of_lt_of_le (Heap.lt_size e) I.ok.above))).trans (I.base.keep b o e n hb hx)
  ·obtain⟨sl,e1⟩:=I.base.slot b o e n hb hx
   exact⟨sl,(hs.2 b (Nat.ne_of_lt (Nat.lt_of_lt_of_le (Heap.lt_size e) I.ok.above))).trans e1⟩
  ·obtain⟨o',e1⟩:=I.base.there b o e hx
   exact⟨o',(hs.2 b (Nat.ne_of_lt (Nat.lt_of_lt_of_le (Heap.lt_size e) I.ok.above))).trans e1⟩
  ·by_cases hj:j=i
   ·subst hj
    rw[hi]at e1;cases e1
    rw[List.getElem?_set_self hiσ]at e2
    cases e2
    exact⟨u,r,.inl ⟨hk,by simp⟩⟩
   ·rw[List.getElem?_set_ne (Ne.symm hj)]at e2
    obtain⟨u',r',q⟩:=hl j y v' e1 e2 e3
    refine⟨u',r',?_⟩
    rcases q with⟨k,e⟩|⟨k,c,e,z⟩
    ·refine .inl ⟨k,?_⟩
     have:y≠x:=fun e=>hj (Zdv hN e1 (e▸hi))
     simp[this,e]
    ·exact .inr ⟨k,c,e,z.sameBut hs (cne y c e)⟩
  ·obtain⟨w',z⟩:=I.cell y c e
   exact⟨w',z.sameBut hs (cne y c e)⟩
  ·obtain⟨e,n,ne,nf,d⟩:=I.pin p hp
   exact⟨(hs.2 p.1 ne).trans e,n,ne,nf,d⟩
 ·have hfn:X.fn x=true:=by
   rcases hf with z | z
   ·exact z
   ·rw[z]at hk;cases hk
  obtain⟨c,hc⟩:=I.ok.has x (.inl hk)
  obtain⟨w',z⟩:=I.cell x c hc
  refine wpAny_storeName_cell I.ok.kind hk hc z (fun h' hc' hs=>?_)
  obtain⟨oc,hoc,hocd⟩:=id z
  refine h { s with heap:=h' } ⟨I.ok,I.os,I.bare,⟨fun b o e n hb hx=>?_,fun b o e n hb hx=>?_,I.base.free,fun b o e hx=>?_,I.base.tups,I.base.frzs,I.base.tbls⟩,⟨m,hn.sameBut hs (Ne.symm (cne x c hc)),fun j y v' e1 e2 e3=>?_⟩,fun y c' e=>?_,I.free,I.freeC,fun p hp=>?_,tracked ⟨oc,hoc,I.freeC x c hc⟩ hs,by simpa using I.len⟩ ⟨c,hs,.inr hc⟩
  ·exact(hs.2 b (Nat.ne_of_lt (Nat.lt_of_lt_of_le (Heap.lt_size e) (I.ok.cab x c hfn hc)))).trans (I.base.keep b o e n hb hx)
  ·obtain⟨sl,e1⟩:=I.base.slot b o e n hb hx
   exact⟨sl,(hs.2 b (Nat.ne_of_lt (Nat.lt_of_lt_of_le (Heap.lt_size e) (I.ok.cab x c hfn hc)))).trans e1⟩
  ·obtain⟨o',e1⟩:=I.base.there b o e hx
   exact⟨o',(hs.2 b (Nat.ne_of_lt (Nat.lt_of_lt_of_le (Heap.lt_size e) (I.ok.cab x c hfn hc)))).trans e1⟩
  ·by_cases hj:j=i
   ·subst hj
    rw[hi]at e1;cases e1
    rw[List.getElem?_set_self hiσ]at e2
    cases e2
    exact⟨u,r,.inr ⟨.inl hk,c,hc,hc'⟩⟩
   ·rw[List.getElem?_set_ne (Ne.symm hj)]at e2
    obtain⟨u',r',q⟩:=hl j y v' e1 e2 e3
    refine⟨u',r',?_⟩
    rcases q with q | ⟨k,c',e,z'⟩
    ·exact .inl q
    ·refine .inr ⟨k,c',e,z'.sameBut hs ?_⟩
     rintro rfl
     exact hj (Zdv hN e1 (I.ok.inj _ _ _ e hc▸hi))
  ·by_cases hcc:c'=c
   ·subst hcc;exact⟨_,hc'⟩
   ·obtain⟨w2,z2⟩:=I.cell y c' e
    exact⟨w2,z2.sameBut hs hcc⟩
  ·obtain⟨e,n,ne,nf,d⟩:=I.pin p hp
   refine⟨(hs.2 p.1 ?_).trans e,n,ne,nf,d⟩
   intro q
   rw[q,hoc]at e
   have q':oc=p.2:=Option.some.inj e
   exact d w' (by rw[←q'];exact hocd)
theorem ZbR {M:Model}{A:Around}{E:Value→Shared→Prop}{i:Nat}{x:Str}{v:V}{u:Value}{Q:Unit→Shared→Prop}(I:Inv X pins σ H s)(hN:X.N.Nodup)(hi:X.N[i]?=some x)(hx:Loc X.env.scope x)(r:RelV v u)
  (h:∀s',Inv X pins (σ.set i (some v)) H s'→Q () s') (hf:X.fn x=true∨X.env.scope.names.lookup x=some .local:=by first | exact .inl rfl | exact .inr rfl | assumption):wpAny M A (storeName X.env x u) Q E s:=
 ZdO I hN hi hx r (fun s' I' _=>h s' I') hf
theorem Inv.call' {s':Shared}{ch:List Addr}(I:Inv X pins σ H s)(ho:s'.os=s.os)(u:Un (frs X.stack) ch H H' s.heap s'.heap)(hok:HOk X.prog X.w H' s'.heap)(hg:AllBare s'.gens)
  (hch:∀b∈ch,(b∈X.ex∨X.s₀.heap.objs.size≤b)∧b≠X.env.locals∧(∀x c,X.env.cells.lookup x=some c→c≠b)∧∀p∈X.pn++pins,p.1≠b):Inv X pins σ H' s':=by
 obtain⟨h',g',d',t',o'⟩:=s'
 have e:o'=s.os:=ho
 subst e
 exact I.call (g':=g') (t':=t') (d':=d') u hok hg hch
end
abbrev XK:=Value→Option Addr→Hp→Prop
abbrev St:=List (Option V)
abbrev VK:=V→Hp→Prop
abbrev TE:=St→Hp→VK→Prop
abbrev TT:=St→Hp→(Bool→Hp→Prop)→Prop
abbrev TA:=St→Hp→(List V→Hp→Prop)→Prop
structure Ends where
 nx:St→Hp→Prop
 rt:VK
 bk:St→Hp→Prop:=fun _ _=>False
 ct:St→Hp→Prop:=fun _ _=>False
abbrev TS:=Ends→St→Hp→Prop
def EP (X:Cx)(pins:List (Addr×Obj))(σ:St)(Q:VK)(u:Value)(s':Shared):Prop:=∃v H',Inv X pins σ H' s'∧RelV v u∧Q v H'
def TP (X:Cx)(pins:List (Addr×Obj))(σ:St)(Q:Bool→Hp→Prop)(b:Bool)(s':Shared):Prop:=∃H',Inv X pins σ H' s'∧Q b H'
def AP (X:Cx)(pins:List (Addr×Obj))(σ:St)(Q:List V→Hp→Prop)(us:List Value)(s':Shared):Prop:=∃vs H',Inv X pins σ H' s'∧Vals vs us∧Q vs H'
def SP (X:Cx)(pins:List (Addr×Obj))(D:Ends)(f:Flow)(s':Shared):Prop:=
 match f with
 | .next=>∃σ' H',Inv X pins σ' H' s'∧D.nx σ' H'
 | .brk=>∃σ' H',Inv X pins σ' H' s'∧D.bk σ' H'
 | .cont=>∃σ' H',Inv X pins σ' H' s'∧D.ct σ' H'
 | .ret u=>∃v σ' H',Inv X pins σ' H' s'∧RelV v u∧D.rt v H'
def PE (X:Cx)(e:Expr)(t:TE):Prop:=
 ∀(pins:List (Addr×Obj)) (s:Shared) (σ:St) (H:Hp) (Q:VK),Inv X pins σ H s→t σ H Q→wpAny (model X.prog X.w) X.A (eval e X.env) (EP X pins σ Q) X.xe s
def PT (X:Cx)(e:Expr)(t:TT):Prop:=
 ∀(pins:List (Addr×Obj)) (s:Shared) (σ:St) (H:Hp) (Q:Bool→Hp→Prop),Inv X pins σ H s→t σ H Q→wpAny (model X.prog X.w) X.A (isTrue e X.env (eval e X.env)) (TP X pins σ Q) X.xe s
def PW (X:Cx)(e:Expr)(t:TT):Prop:=
 ∀(whole:Sem Value) (pins:List (Addr×Obj)) (s:Shared) (σ:St) (H:Hp) (Q:Bool→Hp→Prop),Inv X pins σ H s→t σ H Q→wpAny (model X.prog X.w) X.A (isTrue e X.env whole) (TP X pins σ Q) X.xe s
theorem PW.pt {X:Cx}{e:Expr}{t:TT}(h:PW X e t):PT X e t:=h _
def PA (X:Cx)(es:List Expr)(t:TA):Prop:=
 ∀(pos:Pos) (pins:List (Addr×Obj)) (s:Shared) (σ:St) (H:Hp) (Q:List V→Hp→Prop),Inv X pins σ H s→t σ H Q→wpAny (model X.prog X.w) X.A (spliced (backTo pos (starEach es X.env))) (AP X pins σ Q) X.xe s
def PS (X:Cx)(st:Stmt)(t:TS):Prop:=
 ∀(pins:List (Addr×Obj)) (s:Shared) (σ:St) (H:Hp) (D:Ends),Inv X pins σ H s→t D σ H→wpAny (model X.prog X.w) X.A (exec st X.env) (SP X pins D) X.xe s
def PSs (X:Cx)(st:List Stmt)(t:TS):Prop:=
 ∀(pins:List (Addr×Obj)) (s:Shared) (σ:St) (H:Hp) (D:Ends),Inv X pins σ H s→t D σ H→wpAny (model X.prog X.w) X.A (execs st X.env) (SP X pins D) X.xe s
theorem thn {α:Type}{t:Sem α}{Q Q':α→Shared→Prop}{M:Model}{A:Around}{E:Value→Shared→Prop}{s:Shared}(h:wpAny M A t Q E s)(hQ:∀a s,Q a s→Q' a s):wpAny M A t Q' E s:=wpAny_mono h hQ fun _ _ x=>x
section
variable {X:Cx}
theorem bin {a b:Expr}{ta tb:TE}(ha:PE X a ta)(hb:PE X b tb){pins:List (Addr×Obj)}{s:Shared}{σ:St}{H:Hp}{R:V→V→Hp→Prop}(I:Inv X pins σ H s)(h:ta σ H fun x H1=>tb σ H1 fun y H2=>R x y H2)
  {α:Type} {Q:α→Shared→Prop} {f:Value→Value→Sem α}
  (hf:∀v u s2 x y H2,Inv X pins σ H2 s2→RelV x v→RelV y u→R x y H2→wpAny (model X.prog X.w) X.A (f v u) Q X.xe s2):
  wpAny (model X.prog X.w) X.A (eval a X.env) (fun v s₁=>wpAny (model X.prog X.w) X.A (eval b X.env) (fun u s₂=>wpAny (model X.prog X.w) X.A (f v u) Q X.xe s₂) X.xe s₁) X.xe s:=by
 refine thn (ha pins s σ H _ I h) fun v s1 ⟨x,H1,I1,r1,q1⟩=>?_
 refine thn (hb pins s1 σ H1 _ I1 q1) fun u s2 ⟨y,H2,I2,r2,q2⟩=>?_
 exact hf v u s2 x y H2 I2 r1 r2 q2
def tVar (i:Nat):TE:=fun σ H Q=>∃v,σ[i]?=some (some v)∧Q v H
def tC (v:V):TE:=fun _ H Q=>Q v H
theorem ZjE {i:Nat} {x:Str} {pos:Pos} (hN:X.N[i]?=some x) (hv:Vis X.env.scope x) (hd:(x == ("__debug__":Str))=false:=by decide) (hcd:(x == ("__classdict__":Str))=false:=by decide):PE X (.Name x pos) (tVar i):=by
 intro pins s σ H Q I h
 obtain⟨v,e,h⟩:=h
 obtain⟨m,hn,hl⟩:=I.loc
 obtain⟨u,r,l⟩:=hl i x v hN e hv
 have fin:EP X pins σ Q u s:=⟨v,H,I,r,h⟩
 rcases l with⟨hk,hm⟩|⟨hk,c,hc,hcell⟩
 ·exact wpAny_Name (wpAny_loadName_local I.ok.kind hk hn hm fin) hd
 ·rcases hk with hk | hk
  ·exact wpAny_Name (wpAny_loadName_cell I.ok.kind hk hc hcell fin) hd
  ·exact wpAny_Name (wpAny_loadName_free I.ok.kind hk hc hcell fin hcd) hd
theorem Zaf {i j pos}:PE X (.Constant (.int i) j pos) (tC (.int i)):=fun _ _ _ H _ I h=>wpAny_Constant_int ⟨.int i,H,I.tok _,⟨_,rfl⟩,h⟩
theorem ZdX {b j pos}:PE X (.Constant (.bool b) j pos) (tC (.bl b)):=fun _ _ _ H _ I h=>Constant_bool ⟨.bl b,H,I,rfl,h⟩
theorem ZhT {j pos}:PE X (.Constant .none j pos) (tC .non):=fun _ _ _ H _ I h=>Constant_none ⟨.non,H,I,rfl,h⟩
theorem ZjG {x j pos}:PE X (.Constant (.str x) j pos) (tC (.str x)):=fun _ _ _ H _ I h=>Calls.Constant_str ⟨.str x,H,I.tok _,⟨_,rfl⟩,h⟩
def Gl (X:Cx)(x:Str):Prop:=X.env.kindOf x=some .globalImplicit
theorem ZbN {E:Value→Shared→Prop}{pins:List (Addr×Obj)}{s:Shared}{σ:St}{H:Hp}{x:Str}{u:Value}{pos:Pos}{Q:Value→Shared→Prop}(I:Inv X pins σ H s)(hg:Gl X x)(hm:X.mg x=some u)(h:Q u s)
  (hd:(x == ("__debug__":Str))=false:=by decide):wpAny (model X.prog X.w) X.A (eval (.Name x pos) X.env) Q E s:=
 Calls.Name_function_global I.ok.kind hg (Calls.loadGlobal_global (by rw[I.ok.glob];exact I.mod.glob.keeps I.bk) hm h) hd
theorem Zd6 {E:Value→Shared→Prop}{pins:List (Addr×Obj)}{s:Shared}{σ:St}{H:Hp}{x:Str}{u:Value}{pos:Pos}{Q:Value→Shared→Prop}(I:Inv X pins σ H s)(hg:Gl X x)(hm:X.mg x=none)(hv:bootBuiltins x=some u)(h:Q u s)
  (hn:x≠"__name__":=by decide) (hd:(x == ("__debug__":Str))=false:=by decide):wpAny (model X.prog X.w) X.A (eval (.Name x pos) X.env) Q E s:=by
 obtain⟨mb,h1,h2⟩:=I.mod.blt
 exact Calls.Name_function_global I.ok.kind hg (Calls.loadGlobal_builtin (by rw[I.ok.glob];exact I.mod.glob.keeps I.bk) hm (by rw[I.ok.blt];exact h1.keeps I.bk) ((h2 x hn).trans hv) h) hd
theorem ZeE {x:Str} {v:V} {u:Value} {pos:Pos} (hg:Gl X x) (hm:X.mg x=some u) (r:RelV v u) (hd:(x == ("__debug__":Str))=false:=by decide):PE X (.Name x pos) (tC v):=
 fun _ _ _ H _ I h=>ZbN I hg hm ⟨v,H,I,r,h⟩ hd
theorem ZcB {x:Str} {v:V} {u:Value} {pos:Pos} (hg:Gl X x) (hm:X.mg x=none) (hv:bootBuiltins x=some u) (r:RelV v u) (hn:x≠"__name__":=by decide) (hd:(x == ("__debug__":Str))=false:=by decide):PE X (.Name x pos) (tC v):=
 fun _ _ _ H _ I h=>Zd6 I hg hm hv ⟨v,H,I,r,h⟩ hn hd
variable {a b:Expr}{ta tb:TE}{pos:Pos}
def PC (X:Cx)(op:CmpOp)(a b:Expr)(t:TE):Prop:=
 ∀(pins:List (Addr×Obj)) (s:Shared) (σ:St) (H:Hp) (Q:VK),Inv X pins σ H s→t σ H Q →
  wpAny (model X.prog X.w) X.A (eval a X.env) (fun v s₁=>wpAny (model X.prog X.w) X.A (eval b X.env) (fun u s₂=>wpAny (model X.prog X.w) X.A (compareOp op v u) (EP X pins σ Q) X.xe s₂) X.xe s₁) X.xe s
theorem Zho (b:Expr){op:CmpOp}(h:op≠.In)(h2:op≠.NotIn):behindInMarks op b=false:=by
 have e1:(op == CmpOp.In)=false:=by cases op<;>first | rfl | exact absurd rfl h
 have e2:(op == CmpOp.NotIn)=false:=by cases op<;>first | rfl | exact absurd rfl h2
 cases b<;>simp[behindInMarks,e1,e2]
def tB (t:TE):TT:=fun σ H Q=>t σ H fun x H1=>∃c,x=.bl c∧Q c H1
theorem ZlK {op:CmpOp}{t:TE}(h:PC X op a b t)(h1:behindInMarks op b=false:=by first | exact Zho _ (by decide) (by decide) | rfl):PT X (.Compare a [op] [b] pos) (tB t):=by
 intro pins s σ H Q I hw
 refine wpAny_isTrue_Compare1 (thn (h pins s σ H _ I hw) fun v s1 h1=>thn h1 fun u s2 h2=>thn h2 fun c s3 ⟨x,H1,I1,r1,q1⟩=>?_) h1
 obtain⟨d,rfl,q⟩:=q1
 cases r1
 exact wpAny_truthy_bool ⟨H1,I1,q⟩
theorem ZbI {e:Expr}{t:TE}(h:PE X e t)(he:∀whole,isTrue e X.env whole=(do let v ←whole;standAt e.pos;holding [v] (truthy v)):=by intro _;rfl):PT X e (tB t):=by
 intro pins s σ H Q I hw
 refine isTrue_plain (thn (h pins s σ H _ I hw) fun v s1 ⟨x,H1,I1,r1,q1⟩=>?_) (he _)
 obtain⟨d,rfl,q⟩:=q1
 cases r1
 exact wpAny_truthy_bool ⟨H1,I1,q⟩
variable {tA tB':TT}{rest:List Expr}
def tAnd (t u:TT):TT:=fun σ H Q=>t σ H fun c H1=>if c=true then u σ H1 Q else Q false H1
def tOr (t u:TT):TT:=fun σ H Q=>t σ H fun c H1=>if c=true then Q true H1 else u σ H1 Q
def tNot (t:TT):TT:=fun σ H Q=>t σ H fun c H1=>Q (!c) H1
theorem Zdo (ha:PT X a tA):PW X (.BoolOp .And [a] pos) tA:=by
 intro wh pins s σ H Q I h
 refine isTrue_and (thn (ha pins s σ H Q I h) fun c s1 e=>?_)
 cases c with
 | true=>exact isTrue_and_nil e
 | false=>exact e
theorem Zcy (ha:PT X a tA):PW X (.BoolOp .Or [a] pos) tA:=by
 intro wh pins s σ H Q I h
 refine isTrue_or (thn (ha pins s σ H Q I h) fun c s1 e=>?_)
 cases c with
 | false=>exact isTrue_or_nil e
 | true=>exact e
theorem Ze3 (ha:PT X a tA)(hb:PW X (.BoolOp .And (b::rest) pos) tB'):PW X (.BoolOp .And (a::b::rest) pos) (tAnd tA tB'):=by
 intro wh pins s σ H Q I h
 refine isTrue_and (thn (ha pins s σ H _ I h) fun c s1 ⟨H1,I1,q1⟩=>?_)
 cases c with
 | true=>exact hb wh pins s1 σ H1 Q I1 q1
 | false=>exact⟨H1,I1,q1⟩
theorem ZdT (ha:PT X a tA)(hb:PW X (.BoolOp .Or (b::rest) pos) tB'):PW X (.BoolOp .Or (a::b::rest) pos) (tOr tA tB'):=by
 intro wh pins s σ H Q I h
 refine isTrue_or (thn (ha pins s σ H _ I h) fun c s1 ⟨H1,I1,q1⟩=>?_)
 cases c with
 | true=>exact⟨H1,I1,q1⟩
 | false=>exact hb wh pins s1 σ H1 Q I1 q1
theorem ZbJ (ha:PT X a tA):PT X (.UnaryOp .Not a pos) (tNot tA):=by
 intro pins s σ H Q I h
 exact isTrue_not (ha pins s σ H (fun c H1=>Q (!c) H1) I h)
def Zjl (ta tb:TE):TE:=fun σ H Q=>ta σ H fun x H1=>∃c,x=.bl c∧if c=true then tb σ H1 Q else Q (.bl false) H1
def tOrV (ta tb:TE):TE:=fun σ H Q=>ta σ H fun x H1=>∃c,x=.bl c∧if c=true then Q (.bl true) H1 else tb σ H1 Q
def Zje (ta:TE):TE:=fun σ H Q=>ta σ H fun x H1=>∃c,x=.bl c∧Q (.bl (!c)) H1
theorem ZdW {op}{t:TE}(h:PE X a t):PE X (.BoolOp op [a] pos) t:=fun pins s σ H Q I hw=>BoolOp_one (h pins s σ H Q I hw)
theorem ZdY (ha:PE X a ta)(hb:PE X (.BoolOp .And (b::rest) pos) tb):PE X (.BoolOp .And (a::b::rest) pos) (Zjl ta tb):=by
 intro pins s σ H Q I h
 refine BoolOp_and (thn (ha pins s σ H _ I h) fun v s1 ⟨x,H1,I1,r1,q1⟩=>?_)
 obtain⟨c,rfl,q1⟩:=q1
 cases r1
 refine wpAny_truthy_bool ?_
 cases c with
 | true=>exact hb pins s1 σ H1 Q I1 q1
 | false=>exact⟨.bl false,H1,I1,rfl,q1⟩
theorem Zlm (ha:PE X a ta)(hb:PE X (.BoolOp .Or (b::rest) pos) tb):PE X (.BoolOp .Or (a::b::rest) pos) (tOrV ta tb):=by
 intro pins s σ H Q I h
 refine BoolOp_or (thn (ha pins s σ H _ I h) fun v s1 ⟨x,H1,I1,r1,q1⟩=>?_)
 obtain⟨c,rfl,q1⟩:=q1
 cases r1
 refine wpAny_truthy_bool ?_
 cases c with
 | false=>exact hb pins s1 σ H1 Q I1 q1
 | true=>exact⟨.bl true,H1,I1,rfl,q1⟩
theorem ZjI (ha:PE X a ta):PE X (.UnaryOp .Not a pos) (Zje ta):=by
 intro pins s σ H Q I h
 refine UnaryOp_ (thn (ha pins s σ H _ I h) fun v s1 ⟨x,H1,I1,r1,q1⟩=>?_)
 obtain⟨c,rfl,q1⟩:=q1
 cases r1
 exact not_of (wpAny_truthy_bool ⟨.bl (!c),H1,I1,rfl,q1⟩)
def tIf (t:TT)(ta tb:TE):TE:=fun σ H Q=>t σ H fun c H1=>if c=true then ta σ H1 Q else tb σ H1 Q
end
def SqL (K:PySem.W.Frag)(H:Hp)(a:Addr)(xs:List V):Prop:=
 Rd H a (.lst xs) ∨
  ∃(o:Obj) (its:Array Value) (n:Nat),K.lookup a=some o∧o.cls=.type "list"∧o.dict=none∧o.data=.seq its n∧its.size≤sizeLine∧Vals xs its.toList
def SqT (K:PySem.W.Frag)(H:Hp)(a:Addr)(xs:List V):Prop:=
 Rd H a (.tup xs) ∨
  ∃(o:Obj) (its:Array Value) (n:Nat),K.lookup a=some o∧o.cls=.type "tuple"∧o.data=.seq its n∧its.size≤sizeLine∧Vals xs its.toList
def absV:Value→Option V
 | .none=>some .non
 | .bool b=>some (.bl b)
 | .int i _=>some (.int i)
 | .str x _=>some (.str x)
 | .bytes b _=>some (.byt b)
 | .float b _=>some (.flt b)
 | .ref a=>some (.ref a)
 | .type n=>some (.ty n)
 | _=>none
theorem RelV.abs {x:V}{u:Value}(r:RelV x u):absV u=some x:=by
 cases x with
 | non=>cases r;rfl
 | bl _=>cases r;rfl
 | int _=>obtain⟨t,rfl⟩:=r;rfl
 | str _=>obtain⟨t,rfl⟩:=r;rfl
 | byt _=>obtain⟨t,rfl⟩:=r;rfl
 | flt _=>obtain⟨t,rfl⟩:=r;rfl
 | ref _=>cases r;rfl
 | ty _=>cases r;rfl
theorem RelV.inj {x y:V}{u:Value}(r:RelV x u)(q:RelV y u):x=y:=Option.some.inj (r.abs.symm.trans q.abs)
theorem Vals.inj:∀ {xs ys:List V} {us:List Value},Vals xs us→Vals ys us→xs=ys
 | _,_,_,.nil,.nil=>rfl
 | _,_,_,.cons r t,.cons r' t'=>by rw[r.inj r',Vals.inj t t']
section
variable {X:Cx}{pins:List (Addr×Obj)}{σ:St}{H:Hp}{s:Shared}{a:Addr}{xs ys:List V}
theorem Inv.list (I:Inv X pins σ H s)(h:SqL X.K H a xs):∃its:List Value,Vals xs its∧PlainL s.heap a its.toArray∧xs.length≤sizeLine:=by
 rcases h with h | ⟨o,its,n,hk,hc,hd,hs,hz,r⟩
 ·obtain⟨z,its,n,r,e⟩:=h.ok I.hok
  exact⟨its,r,⟨_,n,e,rfl,rfl,rfl⟩,z⟩
 ·refine⟨its.toList,r,⟨o,n,I.kIn a o hk,hc,hd,by simpa using hs⟩,?_⟩
  have e:=r.length
  simp only[Array.length_toList]at e
  omega
theorem Inv.tuple (I:Inv X pins σ H s)(h:SqT X.K H a xs):∃its:List Value,Vals xs its∧IsTup s.heap a its.toArray∧xs.length≤sizeLine:=by
 rcases h with h | ⟨o,its,n,hk,hc,hs,hz,r⟩
 ·obtain⟨z,its,r,p⟩:=h.ok I.hok
  exact⟨its,r,p,z⟩
 ·refine⟨its.toList,r,⟨o,I.kIn a o hk,hc,n,by simpa using hs⟩,?_⟩
  have e:=r.length
  simp only[Array.length_toList]at e
  omega
theorem Inv.list_inj (I:Inv X pins σ H s)(h:SqL X.K H a xs)(h':SqL X.K H a ys):xs=ys:=by
 obtain⟨its,r,⟨o,n,e,_,_,d⟩,_⟩:=I.list h
 obtain⟨its',r',⟨o',n',e',_,_,d'⟩,_⟩:=I.list h'
 rw[e]at e';cases e'
 rw[d]at d'
 injection d' with d1 _
 have:its=its':=by simpa using congrArg Array.toList d1
 subst this
 exact r.inj r'
theorem Inv.tuple_inj (I:Inv X pins σ H s)(h:SqT X.K H a xs)(h':SqT X.K H a ys):xs=ys:=by
 obtain⟨its,r,⟨o,e,_,n,d⟩,_⟩:=I.tuple h
 obtain⟨its',r',⟨o',e',_,n',d'⟩,_⟩:=I.tuple h'
 rw[e]at e';cases e'
 rw[d]at d'
 injection d' with d1 _
 have:its=its':=by simpa using congrArg Array.toList d1
 subst this
 exact r.inj r'
end
abbrev Cx.wish (X:Cx)(E:Value→Shared→Prop):Cx:={ X with xe:=E }
abbrev Cx.nox (X:Cx):Cx:=X.wish fun _ _=>False
theorem Cx.Ok.wish {X:Cx}(ok:X.Ok)(E:Value→Shared→Prop):(X.wish E).Ok:=
 ⟨ok.mod,ok.kind,ok.glob,ok.blt,ok.above,ok.inj,ok.has,ok.cab,ok.hd,ok.frames,ok.stk,ok.exf,ok.bs,ok.bsz,ok.noex,ok.exfs,ok.funs,ok.frf⟩
theorem Cx.Ok.unwish {X:Cx}{E:Value→Shared→Prop}(ok:(X.wish E).Ok):X.Ok:=
 ⟨ok.mod,ok.kind,ok.glob,ok.blt,ok.above,ok.inj,ok.has,ok.cab,ok.hd,ok.frames,ok.stk,ok.exf,ok.bs,ok.bsz,ok.noex,ok.exfs,ok.funs,ok.frf⟩
section
variable {X:Cx}{pins:List (Addr×Obj)}{σ:St}{H:Hp}{s:Shared}{E:Value→Shared→Prop}
theorem Inv.wish (I:Inv X pins σ H s)(E:Value→Shared→Prop):Inv (X.wish E) pins σ H s:=⟨I.ok.wish E,I.os,I.bare,I.base,I.loc,I.cell,I.free,I.freeC,I.pin,I.hok,I.len⟩
theorem Inv.unwish (I:Inv (X.wish E) pins σ H s):Inv X pins σ H s:=⟨I.ok.unwish,I.os,I.bare,I.base,I.loc,I.cell,I.free,I.freeC,I.pin,I.hok,I.len⟩
theorem SP.unwish {D:Ends}{f:Flow}{s':Shared}(h:SP (X.wish E) pins D f s'):SP X pins D f s':=by
 cases f with
 | next=>obtain⟨σ',H',I,q⟩:=h;exact⟨σ',H',I.unwish,q⟩
 | brk=>obtain⟨σ',H',I,q⟩:=h;exact⟨σ',H',I.unwish,q⟩
 | cont=>obtain⟨σ',H',I,q⟩:=h;exact⟨σ',H',I.unwish,q⟩
 | ret u=>obtain⟨v,σ',H',I,r,q⟩:=h;exact⟨v,σ',H',I.unwish,r,q⟩
theorem PSs.nox {st:List Stmt}{t:TS}(h:PSs X.nox st t):PSs X st t:=fun pins s σ H D I hw=>
 wpAny_mono (h pins s σ H D (I.wish _) hw) (fun _ _ q=>q.unwish) fun _ _ z=>False.elim z
end
section
variable {X:Cx}{st:Stmt}{rest:List Stmt}{t u:TS}{e:Expr}{te:TE}{pos:Pos}
def tNext:TS:=fun D σ H=>D.nx σ H
def tSeq (t u:TS):TS:=fun D σ H=>t { D with nx:=u D } σ H
theorem Zay:PSs X [] tNext:=fun _ _ σ H _ I h=>wpAny_execs_nil ⟨σ,H,I,h⟩
theorem Zac (h1:PS X st t)(h2:PSs X rest u):PSs X (st::rest) (tSeq t u):=by
 intro pins s σ H D I h
 refine wpAny_execs_cons (thn (h1 pins s σ H { D with nx:=u D } I h) fun f s1 q=>?_)
 cases f with
 | next=>
  obtain⟨σ',H',I',q⟩:=q
  exact h2 pins s1 σ' H' D I' q
 | ret v=>exact q
 | brk=>exact q
 | cont=>exact q
theorem Zag (h1:PS X st t):PSs X [st] t:=by
 intro pins s σ H D I h
 refine wpAny_execs_cons (thn (h1 pins s σ H D I h) fun f s1 q=>?_)
 cases f with
 | next=>exact wpAny_execs_nil q
 | ret v=>exact q
 | brk=>exact q
 | cont=>exact q
theorem Inv.quiet {pins:List (Addr×Obj)}{σ:St}{H:Hp}{s:Shared}(I:Inv X pins σ H s):interactive X.env=false:=by simp[interactive,I.ok.kind]
def Zji (te:TE):TS:=fun D σ H=>te σ H fun _ H1=>D.nx σ H1
theorem Zdp (he:PE X e te)(hs:swapsWith e none pos.line X.env=pure false:=by rfl):PS X (.Expr e pos) (Zji te):=by
 intro pins s σ H D I h
 exact wpAny_Expr_any (thn (he pins s σ H _ I h) fun v s1 ⟨x,H1,I1,r1,q1⟩=>⟨σ,H1,I1,q1⟩) I.quiet hs
def tRet (te:TE):TS:=fun D σ H=>te σ H D.rt
theorem Zar (he:PE X e te):PS X (.Return (some e) pos) (tRet te):=by
 intro pins s σ H D I h
 exact wpAny_Return_some (thn (he pins s σ H _ I h) fun v s1 ⟨x,H1,I1,r1,q1⟩=>⟨x,σ,H1,I1,r1,q1⟩)
def Zku:TS:=fun D _ H=>D.rt .non H
def tIfS (c:TT)(t u:TS):TS:=fun D σ H=>c σ H fun b H1=>if b=true then t D σ H1 else u D σ H1
theorem Za6 {c:Expr}{a b:List Stmt}{tc:TT}(hc:PT X c tc)(ha:PSs X a t)(hb:PSs X b u):PS X (.If c a b pos) (tIfS tc t u):=by
 intro pins s σ H D I h
 refine wpAny_If (thn (hc pins s σ H _ I h) fun d s1 ⟨H1,I1,q1⟩=>?_)
 cases d with
 | true=>exact ha pins s1 σ H1 D I1 q1
 | false=>exact hb pins s1 σ H1 D I1 q1
end
abbrev TG:=V→St→Hp→(St→Hp→Prop)→Prop
abbrev TGs:=List V→St→Hp→(St→Hp→Prop)→Prop
def PG (X:Cx)(target:Expr)(t:TG):Prop:=
 ∀(pins:List (Addr×Obj)) (s:Shared) (σ:St) (H:Hp) (v:V) (u:Value) (Q:St→Hp→Prop),Inv X pins σ H s→RelV v u→t v σ H Q →
  wpAny (model X.prog X.w) X.A (assign target X.env u) (fun _ s'=>∃σ' H',Inv X pins σ' H' s'∧Q σ' H') X.xe s
abbrev TIp:=V→V→Hp→VK→Prop
def PIp (X:Cx)(op:Operator)(t:TIp):Prop:=
 ∀(pins:List (Addr×Obj)) (s:Shared) (σ:St) (H:Hp) (x y:V) (v u:Value) (Q:VK),Inv X pins σ H s→RelV x v→RelV y u→t x y H Q →
  wpAny (model X.prog X.w) X.A (inplaceOp op v u) (EP X pins σ Q) X.xe s
section
variable {X:Cx}{pos:Pos}
def ZcQ (i:Nat):TG:=fun v σ H Q=>Q (σ.set i (some v)) H
theorem ZaV {i:Nat}{x:Str}(hN:X.N.Nodup)(hi:X.N[i]?=some x)(hx:Loc X.env.scope x)(hf:X.fn x=true∨X.env.scope.names.lookup x=some .local:=by first | exact .inl rfl | exact .inr rfl | assumption):PG X (.Name x pos) (ZcQ i):=by
 intro pins s σ H v u Q I r h
 exact wpAny_assign_Name (ZbR I hN hi hx r (fun s' I'=>⟨_,H,I',h⟩) hf)
def gNil:TGs:=fun vs σ H Q=>vs=[]∧Q σ H
def ZlH (t:TG)(u:TGs):TGs:=fun vs σ H Q=>∃v r,vs=v::r∧t v σ H fun σ' H'=>u r σ' H' Q
def gTup (K:PySem.W.Frag)(n:Nat)(t:TGs):TG:=fun v σ H Q=>∃a xs,v=.ref a∧SqT K H a xs∧xs.length=n∧t xs σ H Q
def tAsg (te:TE)(g:TG):TS:=fun D σ H=>te σ H fun x H1=>g x σ H1 D.nx
theorem Zal {i:Nat}{x:Str}{e:Expr}{te:TE}{pos':Pos}(hN:X.N.Nodup)(hi:X.N[i]?=some x)(hx:Loc X.env.scope x)(he:PE X e te)(hs:swapsWith e (some (.Name x pos')) pos.line X.env=pure false:=by rfl)(hf:X.fn x=true∨X.env.scope.names.lookup x=some .local:=by first | exact .inl rfl | exact .inr rfl | assumption):
  PS X (.Assign [.Name x pos'] e pos) (tAsg te (ZcQ i)):=by
 intro pins s σ H D I h
 refine wpAny_Assign_Name (thn (he pins s σ H _ I h) fun v s1 ⟨y,H1,I1,r1,q1⟩=>?_) hs
 exact ZbR I1 hN hi hx r1 (fun s2 I2=>⟨_,H1,I2,q1⟩) hf
def tPar (i j:Nat)(ta:TA):TS:=fun D σ H=>ta σ H fun vs H1=>∃v w,vs=[v,w]∧D.nx ((σ.set i (some v)).set j (some w)) H1
def tAug (i:Nat)(te:TE)(ti:TIp):TS:=fun D σ H=>∃x,σ[i]?=some (some x)∧te σ H fun y H1=>ti x y H1 fun z H2=>D.nx (σ.set i (some z)) H2
theorem ZhS {i:Nat}{x:Str}{e:Expr}{te:TE}{op:Operator}{ti:TIp}{pos':Pos}(hN:X.N.Nodup)(hi:X.N[i]?=some x)(hx:Loc X.env.scope x)(he:PE X e te)(ho:PIp X op ti)(hf:X.fn x=true∨X.env.scope.names.lookup x=some .local:=by first | exact .inl rfl | exact .inr rfl | assumption):
  PS X (.AugAssign (.Name x pos') op e pos) (tAug i te ti):=by
 intro pins s σ H D I h
 obtain⟨v,e1,h⟩:=h
 obtain⟨m,hn,hl⟩:=I.loc
 have vis:Vis X.env.scope x:=by rcases hx with k | k;exact .inl k;exact .inr (.inl k)
 obtain⟨u,r,l⟩:=hl i x v hi e1 vis
 refine wpAny_AugAssign_Name ?_
 have go:wpAny (model X.prog X.w) X.A (eval e X.env) (fun w s₂=>wpAny (model X.prog X.w) X.A (inplaceOp op u w) (fun r s₃=>wpAny (model X.prog X.w) X.A (storeName X.env x r) (fun _=>SP X pins D .next) X.xe s₃) X.xe s₂) X.xe s:=by
  refine thn (he pins s σ H _ I h) fun w s1 ⟨y,H1,I1,r1,q1⟩=>?_
  refine thn (ho pins s1 σ H1 v y u w _ I1 r r1 q1) fun z s2 ⟨zv,H2,I2,r2,q2⟩=>?_
  exact ZbR I2 hN hi hx r2 (fun s3 I3=>⟨_,H2,I3,q2⟩) hf
 rcases l with⟨hk,hm⟩|⟨hk,c,hc,hcell⟩
 ·exact wpAny_loadName_local I.ok.kind hk hn hm go
 ·rcases hk with hk | hk
  ·exact wpAny_loadName_cell I.ok.kind hk hc hcell go
  ·rcases hx with k | k
   ·have:X.env.scope.names.lookup x=some .free:=hk
    rw[k]at this;cases this
   ·have:X.env.scope.names.lookup x=some .free:=hk
    rw[k]at this;cases this
def ipI (f:Int→Int→Int):TIp:=fun x y H Q=>∃i j,x=.int i∧y=.int j∧Q (.int (f i j)) H
theorem ZhZ:PIp X .Add (ipI fun i j=>i+j):=by
 intro pins s σ H x y v u Q I r1 r2 h
 obtain⟨i,j,e1,e2,q⟩:=h
 subst e1;subst e2
 obtain⟨t,rfl⟩:=r1
 obtain⟨t',rfl⟩:=r2
 exact iadd_int ⟨.int _,H,I.tok _,⟨_,rfl⟩,q⟩
end
section
variable {X:Cx}{pos:Pos}
def ZfY (c:TT)(tb:TS):TS:=fun D σ H=>∃W:Nat→St→Hp→Prop,(∃m,W m σ H)∧∀m σ H,W m σ H →
 c σ H fun b H1=>if b=true then ∃N:St→Hp→Prop,(∀σ' H',N σ' H'→∃m',m'<m∧W m' σ' H')∧tb { D with nx:=N,ct:=N,bk:=D.nx } σ H1 else D.nx σ H1
theorem Ze5 {c:Expr}{body:List Stmt}{tc:TT}{tb:TS}(hp:PassesOwn (model X.prog X.w) X.A X.env X.xe)(hc:PT X c tc)(hb:PSs X body tb):PS X (.While c body [] pos) (ZfY tc tb):=by
 intro pins s σ H D I h
 obtain⟨W,⟨m0,w0⟩,turn⟩:=h
 refine wpAny_While (codeAny_whileLoop (fun n s'=>∃σ' H',Inv X pins σ' H' s'∧W n σ' H') ?_ m0 ⟨σ,H,I,w0⟩)
 rintro n s1 ⟨σ1,H1,I1,w1⟩
 refine wpAny_passesOwn hp (thn (hc pins s1 σ1 H1 _ I1 (turn n σ1 H1 w1)) fun b s2 ⟨H2,I2,q2⟩=>?_)
 cases b with
 | true=>
  obtain⟨N,hN,q2⟩:=q2
  rw[if_pos rfl]
  refine wpAny_passesOwn hp (thn (hb pins s2 σ1 H2 _ I2 q2) fun f s3 q3=>?_)
  cases f with
  | next=>
   obtain⟨σ3,H3,I3,n3⟩:=q3
   obtain⟨m',hm,w3⟩:=hN σ3 H3 n3
   exact⟨m',hm,σ3,H3,I3,w3⟩
  | cont=>
   obtain⟨σ3,H3,I3,n3⟩:=q3
   obtain⟨m',hm,w3⟩:=hN σ3 H3 n3
   exact⟨m',hm,σ3,H3,I3,w3⟩
  | brk=>exact q3
  | ret v=>exact q3
 | false=>
  rw[if_neg Bool.false_ne_true]
  exact wpAny_execs_nil ⟨σ1,H2,I2,q2⟩
end
structure It where
 go:Nat→Hp→Prop
 yld:Nat→Hp→V→Hp→Prop
 stop:Nat→Hp→Prop
def FpOk (X:Cx)(pins:List (Addr×Obj))(H:Hp)(b:Addr):Prop:=
 H b=none∧b≠X.env.locals∧b∉X.fs∧(b∈X.ex∨X.s₀.heap.objs.size≤b)∧(∀x c,X.env.cells.lookup x=some c→c≠b)∧∀p∈X.pn++pins,p.1≠b
theorem Inv.fpOk {X:Cx}{pins:List (Addr×Obj)}{σ:St}{H H':Hp}{s:Shared}{b:Addr}(I:Inv X pins σ H s)(hb:s.heap.objs.size≤b)(hn:H' b=none):FpOk X pins H' b:=by
 refine⟨hn,Nat.ne_of_gt (Nat.lt_of_lt_of_le I.lt hb),I.nofs hb,.inr (Nat.le_trans I.sz hb),fun x c e z=>?_,fun p hp z=>?_⟩
 ·obtain⟨v,q⟩:=I.cell x c e
  exact absurd (Nat.lt_of_lt_of_le q.lt (by rw[z];exact hb)) (Nat.lt_irrefl _)
 ·exact absurd (Nat.lt_of_lt_of_le (Heap.lt_size (I.pin p hp).1) (by rw[z];exact hb)) (Nat.lt_irrefl _)
structure Turn (P:Program)(w:World)(K:PySem.W.Frag)(tg:Expr)(J:It)(fp:List Addr)(it:Addr)(tn:Nat→Heap→Prop):Prop where
 mem:it∈fp
 obj:∀i h,tn i h→∀b∈fp,∃o,h.get? b=some o∧∀v,o.data≠.cell v
 keep:∀i h h',tn i h→(∀b∈fp,∀o,h.get? b=some o→h'.get? b=some o)→tn i h'
 item:∀(X:Cx),X.prog=P→X.w=w→X.K=K→X.calm=true→∀(i:Nat) (pins:List (Addr×Obj)) (s:Shared) (σ:St) (H:Hp) (E:Value→Shared→Prop),Inv X pins σ H s→(∀b∈fp,FpOk X pins H b)→tn i s.heap→J.go i H →
  wpAny (model P w) X.A (pyNext (.ref it)) (fun r s1=>∃u,r=some u ∧
   wpAny (model P w) X.A (letOwnedTupleGo tg (.ref it) u) (fun _ s2=>∃x H',Inv X pins σ H' s2∧RelV x u∧J.yld i H x H'∧tn (i+1) s2.heap∧∀b∈fp,H' b=none) E s1) E s
 done:∀(X:Cx),X.prog=P→X.w=w→X.K=K→X.calm=true→∀(i:Nat) (pins:List (Addr×Obj)) (s:Shared) (σ:St) (H:Hp) (E:Value→Shared→Prop),Inv X pins σ H s→(∀b∈fp,FpOk X pins H b)→tn i s.heap→J.stop i H →
  wpAny (model P w) X.A (pyNext (.ref it)) (fun r s1=>r=none∧Inv X pins σ H s1) E s
 self:∀(A:Around) (i:Nat) (s:Shared) (Q:Value→Shared→Prop) (E:Value→Shared→Prop),tn i s.heap→Q (.ref it) s→wpAny (model P w) A (pyIter (.ref it)) Q E s
abbrev TI:=St→Hp→(It→Hp→Prop)→Prop
def PIE (X:Cx)(pins:List (Addr×Obj))(σ:St)(tg:Expr)(R:It→Hp→Prop)(itv:Value)(s2:Shared):Prop:=
 ∃(it:Addr) (fp:List Addr) (tn:Nat→Heap→Prop) (J:It) (H':Hp),itv=.ref it∧Inv X pins σ H' s2∧Turn X.prog X.w X.K tg J fp it tn∧tn 0 s2.heap∧(∀b∈fp,FpOk X pins H' b)∧R J H'
def PI (X:Cx)(tg iter:Expr)(wi:TI):Prop:=
 ∀(pins:List (Addr×Obj)) (s:Shared) (σ:St) (H:Hp) (R:It→Hp→Prop),Inv X pins σ H s→wi σ H R →
  wpAny (model X.prog X.w) X.A (eval iter X.env) (fun v s1=>wpAny (model X.prog X.w) X.A (pyIter v) (PIE X pins σ tg R) X.xe s1) X.xe s
theorem ZiK {M:Model}{A:Around}{E:Value→Shared→Prop}{s:Shared}{tg:Expr}{it:Addr}{u:Value}{o:Obj}{n:String}{vs:Array Value}{Q:Unit→Shared→Prop}(ho:s.heap.get? it=some o)(hc:o.cls=.type n)(hd:o.data=.fields vs)
    (hn:["enumerate","zip","dict_itemiterator","dict_reverseitemiterator","odict_iterator","itertools.zip_longest","itertools.pairwise"].contains n=false) (hQ:Q () s):wpAny M A (letOwnedTupleGo tg (.ref it) u) Q E s:=by
  unfold letOwnedTupleGo
  cases tg<;>first
    | exact wpAny_pure hQ
    | (cases u<;>first
        | exact wpAny_pure hQ
        | (refine wpAny_bind (wpAny_load ho ?_)
           rw[hc,hd]
           show wpAny M A (if (["enumerate","zip","dict_itemiterator","dict_reverseitemiterator","odict_iterator","itertools.zip_longest","itertools.pairwise"].contains n&&vs[0]? == some (rawInt _))=true then _ else _) Q E s
           rw[if_neg (by intro h;rw[hn,Bool.false_and]at h;cases h)]
           exact wpAny_pure hQ))
def Itl (K:PySem.W.Frag)(a:Addr):It:=
 ⟨fun i H=>∃xs x,SqL K H a xs∧xs[i]?=some x,fun i H x H'=>H'=H∧∀xs,SqL K H a xs→xs[i]?=some x,fun i H=>∃xs,SqL K H a xs∧xs.length≤i⟩
def Itt (K:PySem.W.Frag)(a:Addr):It:=
 ⟨fun i H=>∃xs x,SqT K H a xs∧xs[i]?=some x,fun i H x H'=>H'=H∧∀xs,SqT K H a xs→xs[i]?=some x,fun i H=>∃xs,SqT K H a xs∧xs.length≤i⟩
def Itr (lo:Int)(n:Nat):It:=⟨fun i _=>i<n,fun i H x H'=>H'=H∧x=.int (lo+i),fun i _=>n≤i⟩
theorem ZfT {P:Program}{w:World}{K:PySem.W.Frag}{tg:Expr}(a it:Addr):Turn P w K tg (Itl K a) [it] it (fun i h=>h.IsListIter it a i) where
 mem:=by simp
 obj:=fun i h st b hb=>by
  have e:b=it:=by simpa using hb
  subst e
  obtain⟨o,e,c,d⟩:=st
  exact⟨o,e,fun v z=>by rw[d]at z;cases z⟩
 keep:=fun i h h' st k=>st.at fun o e=>k it (by simp) o e
 item:=by
  intro X hP hw hK hc i pins s σ H E I hf st hg
  subst hP hw hK
  obtain⟨xs,x,hq,hx⟩:=hg
  obtain⟨its,rv,p,hz⟩:=I.list hq
  obtain⟨u,hu,ru⟩:=rv.get hx
  obtain⟨f0,f1,f2,f3,f4,f5⟩:=hf it (by simp)
  refine wpAny_pyNext_list_item st p.isList (x:=u) (by simpa using hu) fun h' st' sb=>?_
  have I1:Inv X pins σ H { s with heap:=h' }:=I.turned (t':=s.toks) (fun b o hb e=>(sb.2 b hb).trans e) f0 f1 f3 f4 f5
  obtain⟨o,e,c,d⟩:=id st'
  exact⟨u,rfl,ZiK (s:={ s with heap:=h' }) e c d (by decide) ⟨x,H,I1,ru,⟨rfl,fun ys hy=>by rw[I.list_inj hy hq];exact hx⟩,st',fun b hb=>(hf b hb).1⟩⟩
 done:=by
  intro X hP hw hK hc i pins s σ H E I hf st hg
  subst hP hw hK
  obtain⟨xs,hq,hx⟩:=hg
  obtain⟨its,rv,p,hz⟩:=I.list hq
  obtain⟨f0,f1,f2,f3,f4,f5⟩:=hf it (by simp)
  have hl:=rv.length
  exact wpAny_pyNext_list_end (I.ok.hd hc) st p.isList (by simp;omega) fun h' eb=>⟨rfl,I.turned (t':=s.toks) (fun b o hb e=>eb b o hb e) f0 f1 f3 f4 f5⟩
 self:=fun _ _ _ _ _ st h=>wpAny_pyIter_listiter st h
theorem Zfo {P:Program}{w:World}{K:PySem.W.Frag}{tg:Expr}(it:Addr)(lo:Int)(n:Nat):Turn P w K tg (Itr lo n) [it] it (fun i h=>IsRangeIter h it (lo+(i:Nat)*1) ((n:Int)-(i:Nat)) 1) where
 mem:=by simp
 obj:=fun i h st b hb=>by
  have e:b=it:=by simpa using hb
  subst e
  exact⟨_,st,fun v z=>by
   have z':Data.fields _=Data.cell v:=z
   cases z'⟩
 keep:=fun i h h' st k=>k it (by simp) _ st
 item:=by
  intro X hP hw hK hc i pins s σ H E I hf st hg
  subst hP hw hK
  obtain⟨f0,f1,f2,f3,f4,f5⟩:=hf it (by simp)
  have W:=Walks.range (prog:=X.prog) (w:=X.w) (I.ok.hd hc) it lo 1 n
  refine W.item i s _ _ hg st fun v h' tk hv st' kk=>?_
  obtain⟨t,rfl⟩:=hv
  have I1:Inv X pins σ H { s with heap:=h',toks:=tk }:=I.turned (fun b o hb e=>kk b o (by simpa using hb) e) f0 f1 f3 f4 f5
  refine⟨_,rfl,ZiK (s:={ s with heap:=h',toks:=tk }) (n:="range_iterator") st' rfl rfl (by decide) ⟨.int (lo+i),H,I1,⟨t,?_⟩,⟨rfl,rfl⟩,st',fun b hb=>(hf b hb).1⟩⟩
  rw[Int.mul_one]
 done:=by
  intro X hP hw hK hc i pins s σ H E I hf st hg
  subst hP hw hK
  obtain⟨f0,f1,f2,f3,f4,f5⟩:=hf it (by simp)
  exact wpAny_pyNext_range_end (I.ok.hd hc) st (by have:n≤i:=hg;omega) fun h' eb=>⟨rfl,I.turned (t':=s.toks) (fun b o hb e=>eb b o hb e) f0 f1 f3 f4 f5⟩
 self:=fun _ _ _ _ _ st h=>wpAny_pyIter_rangeiter st h
section
variable {X:Cx}{tg:Expr}
def ZiH (K:PySem.W.Frag)(tl:TE):TI:=fun σ H R=>tl σ H fun x H1=>∃a,x=.ref a∧(∃xs,SqL K H1 a xs)∧R (Itl K a) H1
def iTup (K:PySem.W.Frag)(tl:TE):TI:=fun σ H R=>tl σ H fun x H1=>∃a,x=.ref a∧(∃xs,SqT K H1 a xs)∧R (Itt K a) H1
theorem Zip {l:Expr}{tl:TE}(hl:PE X l tl):PI X tg l (ZiH X.K tl):=by
 intro pins s σ H R I h
 refine thn (hl pins s σ H _ I h) fun v s1 ⟨x,H1,I1,r1,q1⟩=>?_
 obtain⟨a,e,⟨xs,hq⟩,q⟩:=q1
 subst e
 cases r1
 obtain⟨its,rv,p,hz⟩:=I1.list hq
 refine wpAny_pyIter_list p.isList ?_
 refine⟨s1.heap.objs.size,[s1.heap.objs.size],_,_,H1,rfl,I1.kept (t':=s1.toks) fun b o e=>Heap.get?_push_of_some _ e,ZfT a _,⟨_,Heap.get?_push_size _ rfl,rfl,rfl⟩,fun b hb=>?_,q⟩
 have e:b=s1.heap.objs.size:=by simpa using hb
 subst e
 exact I1.fpOk (Nat.le_refl _) (I1.hok.fresh (Nat.le_refl _))
theorem Ze2 {pins:List (Addr×Obj)}{σ:St}{H:Hp}{s:Shared}{R:It→Hp→Prop}{E:Value→Shared→Prop}{lo hi:Int}{t u v:Tok}{tk:Nat}(I:Inv X pins σ H s)(h1:-(2 ^ 62)≤lo)(h2:lo<2 ^ 62)(h3:-(2 ^ 62)≤hi)(h4:hi<2 ^ 62)
  (q:R (Itr lo (hi-lo).toNat) H):wpAny (model X.prog X.w) X.A (pyIter (.ref s.heap.objs.size)) (PIE X pins σ tg R) E { s with heap:=s.heap.push { cls:=.type "range",data:=.fields #[.int lo t,.int hi u,.int 1 v] },toks:=tk }:=by
 refine wpAny_pyIter_range (IsRange.new ..) (small_one h1 h2 h3 h4) ?_
 have I1:Inv X pins σ H { s with heap:=s.heap.push { cls:=.type "range",data:=.fields #[.int lo t,.int hi u,.int 1 v] },toks:=tk }:=I.kept fun b o e=>Heap.get?_push_of_some _ e
 refine⟨(s.heap.push { cls:=.type "range",data:=.fields #[.int lo t,.int hi u,.int 1 v] }).objs.size,[(s.heap.push { cls:=.type "range",data:=.fields #[.int lo t,.int hi u,.int 1 v] }).objs.size],_,_,H,rfl,
  I1.kept (t':=tk) fun b o e=>Heap.get?_push_of_some _ e,Zfo _ lo (hi-lo).toNat,?_,fun b hb=>?_,q⟩
 ·have e1:lo+((0:Nat):Int)*1=lo:=by simp
  have e2:(((hi-lo).toNat:Nat):Int)-((0:Nat):Int)=Builtin.Range.rangeSize lo hi 1:=by rw[rangeSize_one];split<;>omega
  show IsRangeIter _ _ (lo+((0:Nat):Int)*1) ((((hi-lo).toNat:Nat):Int)-((0:Nat):Int)) 1
  rw[e1,e2]
  exact Heap.get?_push_size _ rfl
 ·have e:b=(s.heap.push { cls:=.type "range",data:=.fields #[.int lo t,.int hi u,.int 1 v] }).objs.size:=by simpa using hb
  subst e
  exact I1.fpOk (Nat.le_refl _) (I1.hok.fresh (Nat.le_refl _))
def Zkg (ta:TA):TI:=fun σ H R=>ta σ H fun vs H1=>∃j:Int,vs=[.int j]∧-(2 ^ 62)≤j∧j<2 ^ 62∧R (Itr 0 j.toNat) H1
def Zkf (ta:TA):TI:=fun σ H R=>ta σ H fun vs H1=>∃i j:Int,vs=[.int i,.int j]∧(-(2 ^ 62)≤i∧i<2 ^ 62∧-(2 ^ 62)≤j∧j<2 ^ 62)∧R (Itr i (j-i).toNat) H1
theorem Zbh {a:Expr} {ta:TA} {p pos:Pos} (hg:Gl X "range") (hm:X.mg "range"=none) (ha:PA X [a] ta) (hs:starEach [a] X.env=[(false,eval a X.env)]:=by rfl):PI X tg (.Call (.Name "range" p) [a] [] pos) (Zkg ta):=by
 intro pins s σ H R I h
 refine Call_ (Zd6 I hg hm boot_range (PyProof.Rows.callWith_type1 (thn (ha pos pins s σ H _ I h) fun us s1 ⟨vs,H1,I1,r1,q1⟩=>?_) hs rfl))
 obtain⟨j,e,q1,q2,q⟩:=q1
 subst e
 cases r1 with
 | cons r rr=>
  cases rr
  obtain⟨t,rfl⟩:=r
  exact call_range_1 (Ze2 I1 (by omega) (by omega) q1 q2 (by simpa using q))
theorem Zcz {a b:Expr} {ta:TA} {p pos:Pos} (hg:Gl X "range") (hm:X.mg "range"=none) (ha:PA X [a,b] ta) (hs:starEach [a,b] X.env=[(false,eval a X.env),(false,eval b X.env)]:=by rfl) (hs2:starEach [b] X.env=[(false,eval b X.env)]:=by rfl):
  PI X tg (.Call (.Name "range" p) [a,b] [] pos) (Zkf ta):=by
 intro pins s σ H R I h
 refine Call_ (Zd6 I hg hm boot_range (PyProof.Rows.callWith_type1 (thn (ha pos pins s σ H _ I h) fun us s1 ⟨vs,H1,I1,r1,q1⟩=>?_) (by rw[hs,hs2]) (by rw[hs2];rfl)))
 obtain⟨i,j,e,⟨q1,q2,q3,q4⟩,q⟩:=q1
 subst e
 cases r1 with
 | cons r rr=>
  cases rr with
  | cons r' rr=>
   cases rr
   obtain⟨t,rfl⟩:=r
   obtain⟨t',rfl⟩:=r'
   exact call_range_2 (Ze2 I1 q1 q2 q3 q4 q)
def tFor (wi:TI)(g:TG)(tb:TS):TS:=fun D σ H=>wi σ H fun J H1=>∃W:Nat→Nat→St→Hp→Prop,(∃m,W 0 m σ H1)∧∀i m σ H,W i m σ H →
 (J.stop i H∧D.nx σ H)∨(J.go i H∧∃N:St→Hp→Prop,(∀σ' H',N σ' H'→∃m',m'<m∧W (i+1) m' σ' H')∧∀x H',J.yld i H x H'→g x σ H' fun σ2 H2=>tb { D with nx:=N,ct:=N,bk:=D.nx } σ2 H2)
def ZdU (fp:List Addr)(h:Heap):List (Addr×Obj):=fp.filterMap fun b=>(h.get? b).map fun o=>(b,o)
theorem ZbA {fp:List Addr}{h:Heap}{b:Addr}{o:Obj}(hb:b∈fp)(e:h.get? b=some o):(b,o)∈ZdU fp h:=List.mem_filterMap.mpr ⟨b,hb,by rw[e];rfl⟩
theorem Zgk {fp:List Addr}{h:Heap}{p:Addr×Obj}(hp:p∈ZdU fp h):p.1∈fp∧h.get? p.1=some p.2:=by
 obtain⟨b,hb,e⟩:=List.mem_filterMap.mp hp
 cases q:h.get? b with
 | none=>rw[q]at e;cases e
 | some o=>
  rw[q]at e
  have e':(b,o)=p:=Option.some.inj e
  subst e'
  exact⟨hb,q⟩
theorem Inv.pinned {pins:List (Addr×Obj)}{σ:St}{H:Hp}{s:Shared}{fp:List Addr}(I:Inv X pins σ H s)(hf:∀b∈fp,FpOk X pins H b)(ho:∀b∈fp,∃o,s.heap.get? b=some o∧∀v,o.data≠.cell v):Inv X (pins++ZdU fp s.heap) σ H s:=
 I.pins_of fun p hp=>(List.mem_append.mp hp).elim (fun z=>I.pin p (List.mem_append_right _ z)) fun z=>by
  obtain⟨hb,e⟩:=Zgk z
  obtain⟨f0,f1,f2,_⟩:=hf p.1 hb
  obtain⟨o,e',d⟩:=ho p.1 hb
  rw[e]at e';cases e'
  exact⟨e,f0,f1,f2,d⟩
theorem Inv.unpinned {pins pl:List (Addr×Obj)}{σ:St}{H:Hp}{s:Shared}(I:Inv X (pins++pl) σ H s):Inv X pins σ H s:=I.pins_of fun p hp=>I.pin p (List.mem_append_right _ (List.mem_append_left _ hp))
theorem ZbV {iter:Expr}{body:List Stmt}{wi:TI}{g:TG}{tb:TS}{pos:Pos}(hp:PassesOwn (model X.prog X.w) X.A X.env X.xe)(hc:X.calm=true)(hi:PI X tg iter wi)(hg:PG X tg g)(hb:PSs X body tb)
  (hs:∀x,foldedSetIterable iter X.env x=pure x:=by intro _;rfl):PS X (.For tg iter body [] pos) (tFor wi g tb):=by
 intro pins s σ H D I h
 refine wpAny_For (thn (hi pins s σ H _ I h) fun v s1 h1=>thn h1 fun itv s2 h2=>?_) hs
 obtain⟨it,fp,tn,J,H2,e,I2,T,st2,f2,W,⟨m0,w0⟩,turn⟩:=h2
 subst e
 have stat:∀ {H':Hp},(∀b∈fp,H' b=none)→∀b∈fp,FpOk X pins H' b:=fun hn b hb=>⟨hn b hb,(f2 b hb).2⟩
 refine codeAny_forLoop_any (fun n s'=>∃i σ' H',Inv X pins σ' H' s'∧tn i s'.heap∧(∀b∈fp,H' b=none)∧W i n σ' H') ?_ m0 ⟨0,σ,H2,I2,st2,fun b hb=>(f2 b hb).1,w0⟩
 rintro n s3 ⟨i,σ3,H3,I3,st3,fr3,w3⟩
 rcases turn i n σ3 H3 w3 with⟨stop,qn⟩|⟨go,N,hN,step⟩
 ·refine wpAny_passesOwn hp (thn (T.done X rfl rfl rfl hc i pins s3 σ3 H3 X.xe I3 (stat fr3) st3 stop) fun r s4 ⟨hr,I4⟩=>?_)
  subst hr
  exact wpAny_execs_nil ⟨σ3,H3,I4,qn⟩
 ·refine wpAny_passesOwn hp (thn (T.item X rfl rfl rfl hc i pins s3 σ3 H3 X.xe I3 (stat fr3) st3 go) fun r s4 ⟨u,hr,h4⟩=>?_)
  subst hr
  refine wpAny_passesOwn hp (thn h4 fun _ s5 ⟨x,H5,I5,r5,y5,st5,fr5⟩=>?_)
  have I5':=I5.pinned (stat fr5) (T.obj _ _ st5)
  refine wpAny_passesOwn hp (thn (hg _ s5 σ3 H5 x u _ I5' r5 (step x H5 y5)) fun _ s6 ⟨σ6,H6,I6,q6⟩=>?_)
  refine wpAny_passesOwn hp (thn (hb _ s6 σ6 H6 _ I6 q6) fun f s7 q7=>?_)
  have again:∀ {σ7:St} {H7:Hp},Inv X (pins++ZdU fp s5.heap) σ7 H7 s7→N σ7 H7→∃m,m<n∧∃i σ' H',Inv X pins σ' H' s7∧tn i s7.heap∧(∀b∈fp,H' b=none)∧W i m σ' H':=fun {σ7 H7} I7 n7=>by
   obtain⟨m',hm,w7⟩:=hN σ7 H7 n7
   refine⟨m',hm,i+1,σ7,H7,I7.unpinned,T.keep _ _ _ st5 fun b hb o e=>(I7.pin (b,o) (List.mem_append_right _ (List.mem_append_right _ (ZbA hb e)))).1,fun b hb=>?_,w7⟩
   obtain⟨o,e,d⟩:=T.obj _ _ st5 b hb
   exact(I7.pin (b,o) (List.mem_append_right _ (List.mem_append_right _ (ZbA hb e)))).2.1
  cases f with
  | next=>obtain⟨σ7,H7,I7,n7⟩:=q7;exact again I7 n7
  | cont=>obtain⟨σ7,H7,I7,n7⟩:=q7;exact again I7 n7
  | brk=>obtain⟨σ7,H7,I7,q7⟩:=q7;exact⟨σ7,H7,I7.unpinned,q7⟩
  | ret v=>obtain⟨x7,σ7,H7,I7,r7,q7⟩:=q7;exact⟨x7,σ7,H7,I7.unpinned,r7,q7⟩
end
theorem ZhB {K:PySem.W.Frag}{a:Addr}{xs:List V}{g:TG}{tb:TS}{D:Ends}{σ:St}{H:Hp}(Pv:Nat→St→Hp→Prop)(h0:Pv 0 σ H)(hl:∀i σ H,i≤xs.length→Pv i σ H→SqL K H a xs)
  (hs:∀i x σ H,xs[i]?=some x→Pv i σ H→g x σ H fun σ2 H2=>tb { D with nx:=Pv (i+1),ct:=Pv (i+1),bk:=D.nx } σ2 H2) (hd:∀σ H,Pv xs.length σ H→D.nx σ H):
  ∃W:Nat→Nat→St→Hp→Prop,(∃m,W 0 m σ H)∧∀i m σ H,W i m σ H →
   ((Itl K a).stop i H∧D.nx σ H)∨((Itl K a).go i H∧∃N:St→Hp→Prop,(∀σ' H',N σ' H'→∃m',m'<m∧W (i+1) m' σ' H')∧∀x H',(Itl K a).yld i H x H'→g x σ H' fun σ2 H2=>tb { D with nx:=N,ct:=N,bk:=D.nx } σ2 H2):=by
 refine⟨fun i m σ H=>m=xs.length-i∧i≤xs.length∧Pv i σ H,⟨xs.length,by simp,Nat.zero_le _,h0⟩,?_⟩
 rintro i m σ H ⟨rfl,hi,p⟩
 have q:=hl i σ H hi p
 by_cases hlt:i<xs.length
 ·refine .inr ⟨⟨xs,xs[i],q,by simp[hlt]⟩,Pv (i+1),fun σ' H' p'=>⟨xs.length-(i+1),by omega,rfl,hlt,p'⟩,fun x H' y=>?_⟩
  obtain⟨e,y⟩:=y
  subst e
  exact hs i x σ _ (y xs q) p
 ·have e:i=xs.length:=by omega
  subst e
  exact .inl ⟨⟨xs,q,Nat.le_refl _⟩,hd σ H p⟩
theorem ZgH {lo:Int}{n:Nat}{g:TG}{tb:TS}{D:Ends}{σ:St}{H:Hp}(Pv:Nat→St→Hp→Prop)(h0:Pv 0 σ H)
  (hs:∀i σ H,i<n→Pv i σ H→g (.int (lo+i)) σ H fun σ2 H2=>tb { D with nx:=Pv (i+1),ct:=Pv (i+1),bk:=D.nx } σ2 H2) (hd:∀σ H,Pv n σ H→D.nx σ H):
  ∃W:Nat→Nat→St→Hp→Prop,(∃m,W 0 m σ H)∧∀i m σ H,W i m σ H →
   ((Itr lo n).stop i H∧D.nx σ H)∨((Itr lo n).go i H∧∃N:St→Hp→Prop,(∀σ' H',N σ' H'→∃m',m'<m∧W (i+1) m' σ' H')∧∀x H',(Itr lo n).yld i H x H'→g x σ H' fun σ2 H2=>tb { D with nx:=N,ct:=N,bk:=D.nx } σ2 H2):=by
 refine⟨fun i m σ H=>m=n-i∧i≤n∧Pv i σ H,⟨n,by simp,Nat.zero_le _,h0⟩,?_⟩
 rintro i m σ H ⟨rfl,hi,p⟩
 by_cases hlt:i<n
 ·refine .inr ⟨hlt,Pv (i+1),fun σ' H' p'=>⟨n-(i+1),by omega,rfl,hlt,p'⟩,fun x H' y=>?_⟩
  obtain⟨e,y⟩:=y
  subst e y
  exact hs i σ _ hlt p
 ·have e:i=n:=by omega
  subst e
  exact .inl ⟨Nat.le_refl _,hd σ H p⟩
abbrev R2:=V→V→Hp→VK→Prop
def OpR (X:Cx)(f:Value→Value→Sem Value)(r:R2):Prop:=
 ∀(pins:List (Addr×Obj)) (s:Shared) (σ:St) (H:Hp) (x y:V) (v u:Value) (Q:VK),Inv X pins σ H s→RelV x v→RelV y u→r x y H Q →
  wpAny (model X.prog X.w) X.A (f v u) (EP X pins σ Q) X.xe s
def UnR (X:Cx)(f:Value→Sem Value)(r:V→Hp→VK→Prop):Prop:=
 ∀(pins:List (Addr×Obj)) (s:Shared) (σ:St) (H:Hp) (x:V) (v:Value) (Q:VK),Inv X pins σ H s→RelV x v→r x H Q →
  wpAny (model X.prog X.w) X.A (f v) (EP X pins σ Q) X.xe s
def Zcl (X:Cx)(f:Value)(r:List V→Hp→VK→Prop):Prop:=
 ∀(pins:List (Addr×Obj)) (s:Shared) (σ:St) (H:Hp) (xs:List V) (us:List Value) (Q:VK),Inv X pins σ H s→Vals xs us→r xs H Q →
  wpAny (model X.prog X.w) X.A (call f us) (EP X pins σ Q) X.xe s
def TruR (X:Cx)(r:V→Hp→(Bool→Hp→Prop)→Prop):Prop:=
 ∀(pins:List (Addr×Obj)) (s:Shared) (σ:St) (H:Hp) (x:V) (v:Value) (Q:Bool→Hp→Prop),Inv X pins σ H s→RelV x v→r x H Q →
  wpAny (model X.prog X.w) X.A (truthy v) (TP X pins σ Q) X.xe s
def tOp (r:R2)(ta tb:TE):TE:=fun σ H Q=>ta σ H fun x H1=>tb σ H1 fun y H2=>r x y H2 Q
def tUn (r:V→Hp→VK→Prop)(ta:TE):TE:=fun σ H Q=>ta σ H fun x H1=>r x H1 Q
def rI (C:Int→Int→Prop)(g:Int→Int→V):R2:=fun x y H Q=>∃i j,x=.int i∧y=.int j∧C i j∧Q (g i j) H
def rI0 (g:Int→Int→V):R2:=fun x y H Q=>∃i j,x=.int i∧y=.int j∧Q (g i j) H
def rU (g:Int→V):V→Hp→VK→Prop:=fun x H Q=>∃i,x=.int i∧Q (g i) H
section
variable {X:Cx}{a b c:Expr}{ta tb tc:TE}{pos:Pos}
theorem binT (ha:PE X a ta)(hb:PE X b tb){pins:List (Addr×Obj)}{s:Shared}{σ:St}{H:Hp}{R:V→V→Hp→Prop}(I:Inv X pins σ H s)
  (h:ta σ H fun x H1=>tb σ H1 fun y H2=>R x y H2) {Q:Value→Shared→Prop} {f:Value→Value→Sem Value}
  (hf:∀v u s2 x y H2,Inv X pins σ H2 s2→RelV x v→RelV y u→R x y H2→wpAny (model X.prog X.w) X.A (f v u) Q X.xe s2):
  wpAny (model X.prog X.w) X.A (eval a X.env) (fun v s₁=>wpAny (model X.prog X.w) X.A (eval b X.env) (fun u s₂=>wpAny (model X.prog X.w) X.A (f v u) Q X.xe s₂) X.xe s₁) X.xe s:=by
 refine thn (ha pins s σ H _ I h) fun v s1 ⟨x,H1,I1,r1,q1⟩=>?_
 refine thn (hb pins s1 σ H1 _ I1 q1) fun u s2 ⟨y,H2,I2,r2,q2⟩=>?_
 exact hf v u s2 x y H2 I2 r1 r2 q2
theorem Zai {op:Operator}{r:R2}(ho:OpR X (binaryOp op) r)(ha:PE X a ta)(hb:PE X b tb):PE X (.BinOp a op b pos) (tOp r ta tb):=by
 intro pins s σ H Q I h
 exact wpAny_BinOp (binT ha hb I h fun v u s2 x y H2 I2 rx ry q=>ho pins s2 σ H2 x y v u Q I2 rx ry q)
theorem ZjF {op:UnaryOp}{r:V→Hp→VK→Prop}(ho:UnR X (unaryOp op) r)(ha:PE X a ta):PE X (.UnaryOp op a pos) (tUn r ta):=by
 intro pins s σ H Q I h
 exact UnaryOp_ (thn (ha pins s σ H _ I h) fun v s1 ⟨x,H1,I1,r1,q1⟩=>ho pins s1 σ H1 x v Q I1 r1 q1)
theorem opI {f:Value→Value→Sem Value}{C:Int→Int→Prop}{g:Int→Int→Int}
  (rule:∀(i j:Int) (t u:Tok) (s:Shared) (Q:Value→Shared→Prop) (E:Value→Shared→Prop),C i j→Q (.int (g i j) s.toks) { s with toks:=s.toks+1 }→wpAny (model X.prog X.w) X.A (f (.int i t) (.int j u)) Q E s):
  OpR X f (rI C fun i j=>.int (g i j)):=by
 intro pins s σ H x y v u Q I rx ry h
 obtain⟨i,j,rfl,rfl,hc,q⟩:=h
 obtain⟨t,rfl⟩:=rx
 obtain⟨t',rfl⟩:=ry
 exact rule i j t t' s _ _ hc ⟨.int (g i j),H,I.tok _,⟨_,rfl⟩,q⟩
theorem opI0 {f:Value→Value→Sem Value}{g:Int→Int→Int}
  (rule:∀(i j:Int) (t u:Tok) (s:Shared) (Q:Value→Shared→Prop) (E:Value→Shared→Prop),Q (.int (g i j) s.toks) { s with toks:=s.toks+1 }→wpAny (model X.prog X.w) X.A (f (.int i t) (.int j u)) Q E s):
  OpR X f (rI0 fun i j=>.int (g i j)):=by
 intro pins s σ H x y v u Q I rx ry h
 obtain⟨i,j,rfl,rfl,q⟩:=h
 obtain⟨t,rfl⟩:=rx
 obtain⟨t',rfl⟩:=ry
 exact rule i j t t' s _ _ ⟨.int (g i j),H,I.tok _,⟨_,rfl⟩,q⟩
theorem opB0 {f:Value→Value→Sem Value}{g:Int→Int→Bool}
  (rule:∀(i j:Int) (t u:Tok) (s:Shared) (Q:Value→Shared→Prop) (E:Value→Shared→Prop),Q (.bool (g i j)) s→wpAny (model X.prog X.w) X.A (f (.int i t) (.int j u)) Q E s):
  OpR X f (rI0 fun i j=>.bl (g i j)):=by
 intro pins s σ H x y v u Q I rx ry h
 obtain⟨i,j,rfl,rfl,q⟩:=h
 obtain⟨t,rfl⟩:=rx
 obtain⟨t',rfl⟩:=ry
 exact rule i j t t' s _ _ ⟨.bl (g i j),H,I,rfl,q⟩
def CDiv (i j:Int):Prop:=0<j∧j<1073741824
def CMul (i j:Int):Prop:=(-(2 ^ 64)<i∧i<2 ^ 64)∨(-(2 ^ 64)<j∧j<2 ^ 64)
theorem CMul.ok {i j:Int}(h:CMul i j):IntMulOk i j:=by
 rcases h with⟨h1,h2⟩|⟨h1,h2⟩
 ·exact .of_left (intBits_le_64 h1 h2)
 ·exact .of_right (intBits_le_64 h1 h2)
theorem ZaK:OpR X (binaryOp .Add) (rI0 fun i j=>.int (i+j)):=opI0 fun _ _ _ _ _ _ _ q=>add_int q
theorem ZhU:OpR X (binaryOp .Sub) (rI0 fun i j=>.int (i-j)):=opI0 fun _ _ _ _ _ _ _ q=>sub_int q
theorem Zc6:OpR X (binaryOp .Mult) (rI CMul fun i j=>.int (i*j)):=opI fun _ _ _ _ _ _ _ hc q=>mul_int q hc.ok
theorem ZaJ:OpR X (binaryOp .FloorDiv) (rI CDiv fun i j=>.int (i/j)):=opI fun i j _ _ _ _ _ hc q=>by
 have h1:(0:Int)<j:=hc.1
 have h2:j<1073741824:=hc.2
 exact floordiv_int (by omega) (by rw[Int.fdiv_eq_ediv_of_nonneg i (by omega)];exact q) (.inl (PyProof.noPylong_small (by omega)))
theorem ZaI:OpR X (binaryOp .Mod) (rI (fun _ j=>0<j) fun i j=>.int (i % j)):=opI fun i j _ _ _ _ _ hc q=>by
 have h1:(0:Int)<j:=hc
 exact mod_int' (by omega) (by rw[Int.fmod_eq_emod_of_nonneg i (by omega)];exact q)
theorem unI {f:Value→Sem Value}{g:Int→Int}
  (rule:∀(i:Int) (t:Tok) (s:Shared) (Q:Value→Shared→Prop) (E:Value→Shared→Prop),Q (.int (g i) s.toks) { s with toks:=s.toks+1 }→wpAny (model X.prog X.w) X.A (f (.int i t)) Q E s):
  UnR X f (rU fun i=>.int (g i)):=by
 intro pins s σ H x v Q I rx h
 obtain⟨i,rfl,q⟩:=h
 obtain⟨t,rfl⟩:=rx
 exact rule i t s _ _ ⟨.int (g i),H,I.tok _,⟨_,rfl⟩,q⟩
theorem ZhM:UnR X (unaryOp .USub) (rU fun i=>.int (-i)):=unI fun _ _ _ _ _ q=>neg_int q
end
def scal:V→V→Bool
 | .non,.non=>true | .non,.int _=>true | .int _,.non=>true | .non,.bl _=>true | .bl _,.non=>true | .non,.str _=>true | .str _,.non=>true
 | .int _,.int _=>true | .bl _,.bl _=>true | .str _,.str _=>true | .byt _,.byt _=>true
 | .int _,.str _=>true | .str _,.int _=>true | .bl _,.str _=>true | .str _,.bl _=>true
 | _,_=>false
def rEq:R2:=fun x y H Q=>scal x y=true∧Q (.bl (decide (x=y))) H
def rNe:R2:=fun x y H Q=>scal x y=true∧Q (.bl (!decide (x=y))) H
theorem ZgN {i j:Int}:decide (V.int i=V.int j)=(i == j):=by
 rw[Bool.eq_iff_iff]
 simp
theorem Zh4 {i j:Bool}:decide (V.bl i=V.bl j)=(i == j):=by
 rw[Bool.eq_iff_iff]
 simp
theorem ZgM {i j:Str}:decide (V.str i=V.str j)=(i == j):=by
 rw[Bool.eq_iff_iff]
 simp
theorem ZgO {i j:Array UInt8}:decide (V.byt i=V.byt j)=(i.toList == j.toList):=by
 rw[Bool.eq_iff_iff]
 cases i
 cases j
 simp
section
variable {X:Cx}{a b c:Expr}{ta tb tc:TE}{pos:Pos}
theorem ZaC {pins:List (Addr×Obj)}{σ:St}{H:Hp}{s:Shared}{Q:VK}{k k':Bool}(I:Inv X pins σ H s)(q:Q (.bl k) H)(e:k=k'):EP X pins σ Q (.bool k') s:=by
 subst e
 exact⟨.bl k,H,I,rfl,q⟩
theorem Zlp:OpR X (compareOp .Eq) rEq:=by
 intro pins s σ H x y v u Q I rx ry h
 obtain⟨hs,q⟩:=h
 cases x with
 | non=>
  cases rx
  cases y with
  | non=>cases ry;exact PySem.EqNone.eq_none_none (ZaC I q (by simp))
  | bl j=>cases ry;exact PySem.EqNone.eq_none_bool (ZaC I q (by simp))
  | int j=>obtain⟨t',rfl⟩:=ry;exact PySem.EqNone.eq_none_int (ZaC I q (by simp))
  | str j=>obtain⟨t',rfl⟩:=ry;exact PySem.EqNone.eq_none_str (ZaC I q (by simp))
  | _=>exact absurd (show false=true from hs) Bool.false_ne_true
 | bl i=>
  cases rx
  cases y with
  | non=>cases ry;exact PySem.EqNone.eq_bool_none (ZaC I q (by simp))
  | bl j=>cases ry;exact eq_bool (ZaC I q Zh4)
  | str j=>obtain⟨t',rfl⟩:=ry;exact PySem.EqMixed.eq_bool_str (ZaC I q (by simp))
  | _=>exact absurd (show false=true from hs) Bool.false_ne_true
 | int i=>
  obtain⟨t,rfl⟩:=rx
  cases y with
  | non=>cases ry;exact PySem.EqNone.eq_int_none (ZaC I q (by simp))
  | int j=>obtain⟨t',rfl⟩:=ry;exact eq_int (ZaC I q ZgN)
  | str j=>obtain⟨t',rfl⟩:=ry;exact PySem.EqMixed.eq_int_str (ZaC I q (by simp))
  | _=>exact absurd (show false=true from hs) Bool.false_ne_true
 | str i=>
  obtain⟨t,rfl⟩:=rx
  cases y with
  | non=>cases ry;exact PySem.EqNone.eq_str_none (ZaC I q (by simp))
  | bl j=>cases ry;exact PySem.EqMixed.eq_str_bool (ZaC I q (by simp))
  | int j=>obtain⟨t',rfl⟩:=ry;exact PySem.EqMixed.eq_str_int (ZaC I q (by simp))
  | str j=>obtain⟨t',rfl⟩:=ry;exact eq_str (ZaC I q ZgM)
  | _=>exact absurd (show false=true from hs) Bool.false_ne_true
 | byt i=>
  obtain⟨t,rfl⟩:=rx
  cases y with
  | byt j=>obtain⟨t',rfl⟩:=ry;exact PySem.W.eq_bytes (ZaC I q ZgO)
  | _=>exact absurd (show false=true from hs) Bool.false_ne_true
 | _=>cases y<;>exact absurd (show false=true from hs) Bool.false_ne_true
theorem Zln:OpR X (compareOp .NotEq) rNe:=by
 intro pins s σ H x y v u Q I rx ry h
 obtain⟨hs,q⟩:=h
 cases x with
 | non=>
  cases rx
  cases y with
  | non=>cases ry;exact PySem.EqNone.ne_none_none (ZaC I q (by simp))
  | bl j=>cases ry;exact PySem.EqNone.ne_none_bool (ZaC I q (by simp))
  | int j=>obtain⟨t',rfl⟩:=ry;exact PySem.EqNone.ne_none_int (ZaC I q (by simp))
  | str j=>obtain⟨t',rfl⟩:=ry;exact PySem.EqNone.ne_none_str (ZaC I q (by simp))
  | _=>exact absurd (show false=true from hs) Bool.false_ne_true
 | bl i=>
  cases rx
  cases y with
  | non=>cases ry;exact PySem.EqNone.ne_bool_none (ZaC I q (by simp))
  | bl j=>cases ry;exact ne_bool (ZaC I q (congrArg not Zh4))
  | str j=>obtain⟨t',rfl⟩:=ry;exact PySem.EqMixed.ne_bool_str (ZaC I q (by simp))
  | _=>exact absurd (show false=true from hs) Bool.false_ne_true
 | int i=>
  obtain⟨t,rfl⟩:=rx
  cases y with
  | non=>cases ry;exact PySem.EqNone.ne_int_none (ZaC I q (by simp))
  | int j=>obtain⟨t',rfl⟩:=ry;exact ne_int (ZaC I q (congrArg not ZgN))
  | str j=>obtain⟨t',rfl⟩:=ry;exact PySem.EqMixed.ne_int_str (ZaC I q (by simp))
  | _=>exact absurd (show false=true from hs) Bool.false_ne_true
 | str i=>
  obtain⟨t,rfl⟩:=rx
  cases y with
  | non=>cases ry;exact PySem.EqNone.ne_str_none (ZaC I q (by simp))
  | bl j=>cases ry;exact PySem.EqMixed.ne_str_bool (ZaC I q (by simp))
  | int j=>obtain⟨t',rfl⟩:=ry;exact PySem.EqMixed.ne_str_int (ZaC I q (by simp))
  | str j=>obtain⟨t',rfl⟩:=ry;exact ne_str (ZaC I q (congrArg not ZgM))
  | _=>exact absurd (show false=true from hs) Bool.false_ne_true
 | byt i=>
  obtain⟨t,rfl⟩:=rx
  cases y with
  | byt j=>obtain⟨t',rfl⟩:=ry;exact PySem.W.ne_bytes (ZaC I q (congrArg not ZgO))
  | _=>exact absurd (show false=true from hs) Bool.false_ne_true
 | _=>cases y<;>exact absurd (show false=true from hs) Bool.false_ne_true
theorem Zhk:OpR X (compareOp .Lt) (rI0 fun i j=>.bl (decide (i<j))):=opB0 fun _ _ _ _ _ _ _ q=>lt_int q
theorem Zlo:OpR X (compareOp .LtE) (rI0 fun i j=>.bl (decide (i≤j))):=opB0 fun _ _ _ _ _ _ _ q=>le_int q
theorem ZjN:OpR X (compareOp .Gt) (rI0 fun i j=>.bl (decide (j<i))):=opB0 fun _ _ _ _ _ _ _ q=>gt_int q
theorem Zgi:OpR X (compareOp .In) (fun x y H Q=>∃i j,x=.str i∧y=.str j∧Q (.bl (!(Builtin.Str.occurrences j i 0 j.length 1).isEmpty)) H):=by
 intro pins s σ H x y v u Q I rx ry h
 obtain⟨i,j,rfl,rfl,q⟩:=h
 obtain⟨t,rfl⟩:=rx
 obtain⟨t',rfl⟩:=ry
 exact in_str (ZaC I q rfl)
theorem ZjM:OpR X (compareOp .Is) (fun x y H Q=>y=.non∧Q (.bl (decide (x=.non))) H):=by
 intro pins s σ H x y v u Q I rx ry h
 obtain⟨rfl,q⟩:=h
 cases ry
 refine is_none_gen (ZaC I q ?_)
 cases x<;>first
  | (cases rx;rfl)
  | (obtain⟨t,rfl⟩:=rx;rfl)
theorem ZdZ:OpR X (compareOp .NotIn) (fun x y H Q=>∃i j,x=.str i∧y=.str j∧Q (.bl (!(!(Builtin.Str.occurrences j i 0 j.length 1).isEmpty))) H):=by
 intro pins s σ H x y v u Q I rx ry h
 obtain⟨i,j,rfl,rfl,q⟩:=h
 obtain⟨t,rfl⟩:=rx
 obtain⟨t',rfl⟩:=ry
 exact notIn_str (ZaC I q rfl)
theorem ZaA (b:Expr){op:CmpOp}(h:op≠.In:=by decide)(h2:op≠.NotIn:=by decide):behindInMarks op b=false:=by
 have e1:(op == CmpOp.In)=false:=by cases op<;>first | rfl | exact absurd rfl h
 have e2:(op == CmpOp.NotIn)=false:=by cases op<;>first | rfl | exact absurd rfl h2
 cases b<;>simp[behindInMarks,e1,e2]
theorem Zbu {op:CmpOp}{r:R2}(ho:OpR X (compareOp op) r)(ha:PE X a ta)(hb:PE X b tb)(hm:behindInMarks op b=false):PE X (.Compare a [op] [b] pos) (tOp r ta tb):=by
 intro pins s σ H Q I h
 exact wpAny_Compare1 (binT ha hb I h fun v u s2 x y H2 I2 rx ry q=>ho pins s2 σ H2 x y v u Q I2 rx ry q) hm
def ZgZ (t:TE):TT:=fun σ H Q=>t σ H fun x H'=>∃k,x=.bl k∧Q k H'
theorem Zas {op:CmpOp}{r:R2}(ho:OpR X (compareOp op) r)(ha:PE X a ta)(hb:PE X b tb)(hm:behindInMarks op b=false):PT X (.Compare a [op] [b] pos) (ZgZ (tOp r ta tb)):=by
 intro pins s σ H Q I h
 refine wpAny_isTrue_Compare1 (thn (ha pins s σ H _ I h) fun v s1 ⟨x,H1,I1,r1,q1⟩=>thn (hb pins s1 σ H1 _ I1 q1) fun u s2 ⟨y,H2,I2,r2,q2⟩=>
  thn (ho pins s2 σ H2 x y v u _ I2 r1 r2 q2) fun c s3 ⟨z,H3,I3,r3,k,e,q3⟩=>?_) hm
 subst e
 cases r3
 exact wpAny_truthy_bool ⟨H3,I3,q3⟩
def Zjk (r r':R2)(ta tb tc:TE):TE:=fun σ H Q=>ta σ H fun x H1=>tb σ H1 fun y H2=>r x y H2 fun z H3=>∃k,z=.bl k ∧
 (if k=true then tc σ H3 fun w' H4=>r' y w' H4 Q else Q (.bl false) H3)
def TruV (K:PySem.W.Frag)(x:V)(H:Hp)(k:Bool):Prop:=
 match x with
 | .non=>k=false
 | .bl b=>k=b
 | .int i=>k=(i != 0)
 | .str y=>y.length≤sizeLine∧k=((y.length:Int) != 0)
 | .byt y=>y.size≤sizeLine∧k=((y.size:Int) != 0)
 | .ref p=>(∃xs,SqL K H p xs∧k=!xs.isEmpty)∨(∃xs,SqT K H p xs∧k=!xs.isEmpty)∨∃kvs,H p=some (.dK kvs)∧k=!kvs.isEmpty
 | _=>False
theorem ZfH {κ:Type}{kvs:List (κ×V)}{vs:List (κ×Value)}(r:KV kvs vs):(!vs.isEmpty)=!kvs.isEmpty:=by
 cases r<;>rfl
theorem Zdc {xs:List V}{its:List Value}(r:Vals xs its):(!its.toArray.isEmpty)=!xs.isEmpty:=by
 cases r<;>simp
theorem Zd5:(sizeLine:Nat)<2 ^ 63:=by rw[sizeLine_eq];decide
theorem ZlJ:TruR X (fun x H Q=>∃k,TruV X.K x H k∧Q k H):=by
 intro pins s σ H x v Q I rx h
 obtain⟨k,e,q⟩:=h
 have hl:=Zd5
 have hs:sizeLine=16777216:=sizeLine_eq
 cases x with
 | non=>
  cases rx
  have e':k=false:=e
  subst e'
  exact truthy_none ⟨H,I,q⟩
 | bl b=>
  cases rx
  have e':k=b:=e
  subst e'
  exact wpAny_truthy_bool ⟨H,I,q⟩
 | int i=>
  obtain⟨t,rfl⟩:=rx
  have e':k=(i != 0):=e
  subst e'
  exact PySem.P.truthy_int ⟨H,I,q⟩
 | str y=>
  obtain⟨t,rfl⟩:=rx
  obtain⟨hy,e'⟩:y.length≤sizeLine∧k=((y.length:Int) != 0):=e
  subst e'
  exact PySem.P.truthy_str (by omega) ⟨H,I.tok _,q⟩
 | byt y=>
  obtain⟨t,rfl⟩:=rx
  obtain⟨hy,e'⟩:y.size≤sizeLine∧k=((y.size:Int) != 0):=e
  subst e'
  exact PySem.W.truthy_bytes (by omega) ⟨H,I.tok _,q⟩
 | ref p=>
  cases rx
  have e':(∃xs,SqL X.K H p xs∧k=!xs.isEmpty)∨(∃xs,SqT X.K H p xs∧k=!xs.isEmpty)∨∃kvs,H p=some (.dK kvs)∧k=!kvs.isEmpty:=e
  rcases e' with⟨xs,hx,e'⟩|⟨xs,hx,e'⟩|⟨kvs,hx,e'⟩
  ·subst e'
   obtain⟨its,r,pl,hz⟩:=I.list hx
   have hlen:=r.length
   exact wpAny_truthy_list pl.isList (by simp only[List.size_toArray];omega) ⟨H,I.tok _,by rw[Zdc r];exact q⟩
  ·subst e'
   obtain⟨its,r,pl,hz⟩:=I.tuple hx
   have hlen:=r.length
   exact truthy_tuple pl (by simp only[List.size_toArray];omega) ⟨H,I.tok _,by rw[Zdc r];exact q⟩
  ·subst e'
   obtain⟨hz,hS,vs,r,m⟩:kvs.length≤sizeLine∧(p == sysModules)=false∧∃vs,KV kvs vs∧s.heap.DictOf (ZaT X.prog X.w) p vs:=I.hok p _ hx
   have hlen:kvs.length=vs.length:=Paired.length r
   exact wpAny_truthy_dict hS m (by omega) ⟨H,I.tok _,by rw[ZfH r];exact q⟩
 | _=>exact(show False from e).elim
theorem Zfv:OpR X (binaryOp .Add) (fun x y H Q=>∃i j,x=.str i∧y=.str j∧i.length+j.length≤sizeLine∧Q (.str (i++j)) H):=by
 intro pins s σ H x y v u Q I rx ry h
 obtain⟨i,j,rfl,rfl,hz,q⟩:=h
 obtain⟨t,rfl⟩:=rx
 obtain⟨t',rfl⟩:=ry
 exact add_str (fun t' tk=>⟨.str (i++j),H,I.tok _,⟨_,rfl⟩,q⟩) hz
theorem vals1 {x:V}{us:List Value}(r:Vals [x] us):∃u,us=[u]∧RelV x u:=by
 cases r with
 | cons r1 r2=>cases r2;exact⟨_,rfl,r1⟩
def LenV (K:PySem.W.Frag)(x:V)(H:Hp)(n:Nat):Prop:=
 match x with
 | .str y=>y.length≤sizeLine∧n=y.length
 | .byt y=>y.size≤sizeLine∧n=y.size
 | .ref p=>(∃xs,SqL K H p xs∧n=xs.length)∨∃xs,SqT K H p xs∧n=xs.length
 | _=>False
theorem ZhG:Zcl X (.builtin "len") (fun xs H Q=>∃x n,xs=[x]∧LenV X.K x H n∧Q (.int n) H):=by
 intro pins s σ H xs us Q I r h
 obtain⟨x,n,rfl,e,q⟩:=h
 obtain⟨u,rfl,rx⟩:=vals1 r
 have hl:=Zd5
 have hs:sizeLine=16777216:=sizeLine_eq
 cases x with
 | str y=>
  obtain⟨t,rfl⟩:=rx
  obtain⟨hy,e'⟩:y.length≤sizeLine∧n=y.length:=e
  subst e'
  exact len_str (by omega) ⟨.int _,H,I.tok _,⟨_,rfl⟩,q⟩
 | byt y=>
  obtain⟨t,rfl⟩:=rx
  obtain⟨hy,e'⟩:y.size≤sizeLine∧n=y.size:=e
  subst e'
  exact PySem.W.len_bytes (by omega) ⟨.int _,H,I.tok _,⟨_,rfl⟩,q⟩
 | ref p=>
  cases rx
  have e':(∃xs,SqL X.K H p xs∧n=xs.length)∨∃xs,SqT X.K H p xs∧n=xs.length:=e
  rcases e' with⟨xs,hx,e'⟩|⟨xs,hx,e'⟩
  ·subst e'
   obtain⟨its,r',pl,hz⟩:=I.list hx
   have hlen:=r'.length
   exact Calls.call_len_list pl.isList (by simp only[List.size_toArray];omega) ⟨.int xs.length,H,I.tok _,⟨_,by simp only[List.size_toArray];rw[hlen]⟩,q⟩
  ·subst e'
   obtain⟨its,r',pl,hz⟩:=I.tuple hx
   have hlen:=r'.length
   exact len_tuple pl (by simp only[List.size_toArray];omega) ⟨.int xs.length,H,I.tok _,⟨_,by simp only[List.size_toArray];rw[hlen]⟩,q⟩
 | _=>exact(show False from e).elim
end
structure ObjM (h:Heap)(x dx C:Addr)(mA:Str→Option Value):Prop where
 obj:h.get? x=some (PySem.W.instObj C dx)
 ns:h.Ns1 dx mA
 ne:dx≠x
theorem ZcH {h:Heap}{dx:Addr}{mA:Str→Option Value}(n:h.Ns1 dx mA):∃od,h.get? dx=some od∧∀name,PySem.W.lookIn name od=some (mA name):=by
 obtain⟨o,es,ep,ho,hd,hk,_,hm⟩:=n
 refine⟨o,ho,fun name=>?_⟩
 have e:=hm name
 unfold nsFind findBy at e
 rw[←Array.find?_toList]at e
 unfold PySem.W.lookIn
 rw[hd]
 dsimp only
 split
 ·rename_i y q
  rw[q]at e
  exact congrArg some e
 ·rename_i q
  rw[q]at e
  have a:es.toList.any (·.refKey)=false:=by
   rw[List.any_eq_false]
   intro y hy
   obtain⟨z,t,hkey⟩:=hk y (Array.mem_toList_iff.mp hy)
   simp[DictEntry.refKey,hkey]
  have a':¬es.toList.any (·.refKey)=true:=by rw[a];exact Bool.false_ne_true
  rw[if_neg a']
  exact congrArg some e
theorem ObjM.look {h:Heap}{x dx C:Addr}{mA:Str→Option Value}(I:ObjM h x dx C mA):∃od,PySem.W.InstAt h x (PySem.W.instObj C dx) C (some od)∧∀name,PySem.W.lookIn name od=some (mA name):=
 let ⟨od,ho,hl⟩:=ZcH I.ns
 ⟨od,⟨I.obj,rfl,rfl,ho⟩,hl⟩
section
variable {prog:Program}{w:World}{A:Around}{E:Value→Shared→Prop}{s:Shared}{K:PySem.W.Frag}{x dx C f:Addr}{mA:Str→Option Value}{name:Str}{v:Value}
theorem ZiL {expr:Bool}{Q:Value→Shared→Prop}(X:K.In s.heap)(I:ObjM s.heap x dx C mA)(hg:PySem.W.plainGet K C name=true)(hh:PySem.W.hasDictIn K C=true)
  (ha:PySem.W.findIn K (.ref C) name=some none) (hv:mA name=some v) (hv':PySem.W.handedIn v=true) (h:Q v { s with toks:=s.toks+1 }):
  wpAny (model prog w) A (getAttr (.ref x) name expr) Q E s:=by
 obtain⟨od,J,hl⟩:=I.look
 exact PySem.W.get_value X J (PySem.W.plainGet_of hg).1 (PySem.W.findObj_own hh ha rfl (by rw[hl,hv])) hv' h
theorem Zhz {pl:Sem Bool}{Q:Value×List Value→Shared→Prop}(X:K.In s.heap)(I:ObjM s.heap x dx C mA)(hg:PySem.W.plainGet K C name=true)
  (hf:PySem.W.findIn K (.ref C) name=some (some (.ref f))) (ht:PySem.W.isFn K (.ref f)=true) (hv:mA name=none) (h:Q (.ref f,[.ref x]) s):
  wpAny (model prog w) A (getMethod (.ref x) name pl) Q E s:=by
 obtain⟨od,J,hl⟩:=I.look
 exact PySem.W.method_fn X J (PySem.W.plainGet_of hg).1 (PySem.W.plainGet_of hg).2 hf (beq_iff_eq.mp ht) (by show (PySem.W.lookIn name od).map (·.isSome)=some false;rw[hl,hv];rfl) h
theorem Zif {ns:List Str}{Q:Unit→Shared→Prop}(X:K.In s.heap)(I:ObjM s.heap x dx C mA)
  (hs:PySem.W.findIn K (.ref C) "__setattr__"=some (some (.builtin "object.__setattr__"))) (hp:PySem.W.plainOver K C=true) (ht:PySem.W.takerIn K C name=some none) (hh:PySem.W.hasDictIn K C=true)
  (hw:PySem.Within mA ns) (hsz:ns.length≤sizeLine)
  (h:∀h',ObjM h' x dx C (fun y=>if y=name then some v else mA y)→Heap.SameBut dx s.heap h'→Q () { s with heap:=h',toks:=s.toks+2 }):
  wpAny (model prog w) A (setAttr (.ref x) name v) Q E s:=by
 obtain⟨od,J,hl⟩:=I.look
 refine PySem.W.set_plain X J hs (PySem.W.osa_open (s:={ s with toks:=s.toks+1 }) (r:=none) X J hp ht fun b=>?_)
 obtain⟨cd,hc,hd'⟩:=PySem.W.any_some hh
 have hx:s.heap.get? x=some ⟨.ref C,some dx,.plain,#[]⟩:=I.obj
 refine wpAny_bind (wpAny_pure (wpAny_bind (wpAny_bind (wpAny_loadPart hx (wpAny_bind (PySem.W.Looks.here (s:={ s with toks:=s.toks+1 }) (PySem.W.looks_clsIn X hc) ?_))))))
 rw[hd']
 refine wpAny_pure (a:=some dx) (wpAny_bind (wpAny_pure (wpAny_bind ?_)))
 refine wpAny_nsSet1 (s:={ s with toks:=s.toks+1 }) I.ns fun h' hn2 hs2=>?_
 obtain⟨oD,esD,epD,hoD,hdD,hcD⟩:=hn2.count (PySem.Within.cons name v hw)
 refine wpAny_bind (wpAny_lookBehind hoD (by rw[hdD];exact pastItsLine_dict (Nat.le_trans hcD (by rw[List.length_cons];omega))) ?_)
 exact wpAny_pure (h _ ⟨(hs2.2 _ (Ne.symm I.ne)).trans I.obj,hn2,I.ne⟩ hs2)
theorem Zhr {R:Result→Shared→Prop}{vs:List Value}{kw:List (Str×Value)}(X:K.In s.heap)(hm:PySem.W.makesIn K C=true)
  (hi:PySem.W.findIn K (.ref C) "__init__"=some (some (.ref f))) (hf:PySem.W.typeIn K (.ref f)=some (.type "function"))
  (h:codeAny (model prog w) (A.under (.builtin "type.__call__" ⟨.ref C::vs,kw⟩)) (.call (.ref f) ⟨.ref (s.heap.objs.size+1)::vs,kw⟩) (PySem.W.InitBack (s.heap.objs.size+1) R)
   { s with heap:=(s.heap.push PySem.W.emptyDict).push (PySem.W.instObj C s.heap.objs.size) }):
  codeAny (model prog w) A (.call (.ref C) ⟨vs,kw⟩) R s:=by
 obtain⟨hh,g,d,t,os⟩:=s
 exact PySem.W.make_core (PySem.W.makes_of X hm) (PySem.W.looks_findIn X hi) (fun self=>PySem.W.bind_fn X self hf) (.inl rfl) h
end
def putF (f:Str)(v:V):List (Str×V)→List (Str×V)
 | []=>[(f,v)]
 | (g,x)::r=>if g=f then (g,v)::r else (g,x)::putF f v r
theorem ZaX (f g:Str)(v:V):∀fs:List (Str×V),(putF f v fs).lookup g=if g=f then some v else fs.lookup g
 | []=>by
  show List.lookup g [(f,v)]=_
  by_cases h:g=f
  ·have hb:(g == f)=true:=beq_iff_eq.mpr h
   simp only[List.lookup,hb,if_pos h]
  ·have hb:(g == f)=false:=beq_eq_false_iff_ne.mpr h
   simp only[List.lookup,hb,if_neg h]
 | (k,x)::r=>by
  have ih:=ZaX f g v r
  rw[show putF f v ((k,x)::r)=(if k=f then (k,v)::r else (k,x)::putF f v r) from rfl]
  by_cases hk:k=f
  ·rw[if_pos hk]
   by_cases h:g=k
   ·have hb:(g == k)=true:=beq_iff_eq.mpr h
    simp only[List.lookup,hb,if_pos (h.trans hk)]
   ·have hb:(g == k)=false:=beq_eq_false_iff_ne.mpr h
    simp only[List.lookup,hb,if_neg (fun e:g=f=>h (e.trans hk.symm))]
  ·rw[if_neg hk]
   by_cases h:g=k
   ·have hb:(g == k)=true:=beq_iff_eq.mpr h
    simp only[List.lookup,hb,if_neg (fun e:g=f=>hk (h.symm.trans e))]
   ·have hb:(g == k)=false:=beq_eq_false_iff_ne.mpr h
    simp only[List.lookup,hb]
    exact ih
theorem ZcL (f:Str)(v:V):∀fs:List (Str×V),f∈(putF f v fs).map (·.1)∧∀g,g∈fs.map (·.1)→g∈(putF f v fs).map (·.1)
 | []=>⟨by simp[putF],fun g h=>by simp at h⟩
 | (k,x)::r=>by
  obtain⟨i1,i2⟩:=ZcL f v r
  rw[show putF f v ((k,x)::r)=(if k=f then (k,v)::r else (k,x)::putF f v r) from rfl]
  by_cases hk:k=f
  ·rw[if_pos hk]
   subst hk
   exact⟨by simp,fun g h=>by simpa using h⟩
  ·rw[if_neg hk]
   refine⟨?_,fun g h=>?_⟩
   ·rw[List.map_cons]
    exact List.mem_cons_of_mem _ i1
   ·rw[List.map_cons]at h ⊢
    rcases List.mem_cons.mp h with e | e
    ·exact List.mem_cons.mpr (.inl e)
    ·exact List.mem_cons_of_mem _ (i2 g e)
theorem ZcJ (f:Str)(v:V):∀fs:List (Str×V),(putF f v fs).length≤fs.length+1
 | []=>by simp[putF]
 | (k,x)::r=>by
  have ih:=ZcJ f v r
  rw[show putF f v ((k,x)::r)=(if k=f then (k,v)::r else (k,x)::putF f v r) from rfl]
  by_cases hk:k=f
  ·rw[if_pos hk,List.length_cons,List.length_cons];omega
  ·rw[if_neg hk,List.length_cons,List.length_cons];omega
theorem RelO.some_of {v:V}{o:Option Value}(r:RelO (some v) o):∃u,o=some u∧RelV v u:=by
 cases o with
 | none=>exact(show False from r).elim
 | some u=>exact⟨u,rfl,r⟩
theorem RelO.none_of {o:Option Value}(r:RelO none o):o=none:=by
 cases o with
 | none=>rfl
 | some u=>exact(show False from r).elim
theorem ZgE {v:V}{u:Value}(r:RelV v u):PySem.W.handedIn u=true:=by
 cases v with
 | non=>cases (show u=Value.none from r);rfl
 | bl b=>cases (show u=Value.bool b from r);rfl
 | int i=>obtain⟨t,e⟩:=(show ∃t,u=Value.int i t from r);cases e;rfl
 | str x=>obtain⟨t,e⟩:=(show ∃t,u=Value.str x t from r);cases e;rfl
 | byt b=>obtain⟨t,e⟩:=(show ∃t,u=Value.bytes b t from r);cases e;rfl
 | flt b=>obtain⟨t,e⟩:=(show ∃t,u=Value.float b t from r);cases e;rfl
 | ref a=>cases (show u=Value.ref a from r);rfl
 | ty n=>cases (show u=Value.type n from r);rfl
section
variable {P:Program}{w:World}{H H':Hp}{h h':Heap}{a C dx:Addr}{fs fs':List (Str×V)}
theorem Zdy (hok:HOk P w H h)(e:H a=some (.ins C dx fs)):∃mA,ObjM h a dx C mA∧(∀f,RelO (fs.lookup f) (mA f))∧PySem.Within mA (fs.map (·.1))∧fs.length≤1000∧H dx=some (.own a):=by
 obtain⟨d,z,ne,ob,mA,n,r,q⟩:=(show ObjOk P w H h a (.ins C dx fs) from hok a _ e)
 exact⟨mA,⟨ob,n,ne⟩,r,q,z,d⟩
end
structure Cls (K:PySem.W.Frag)(C:Addr):Prop where
 pg:PySem.W.plainGet K C Str.empty=true
 hd:PySem.W.hasDictIn K C=true
 po:PySem.W.plainOver K C=true
 sa:PySem.W.findIn K (.ref C) "__setattr__"=some (some (.builtin "object.__setattr__"))
theorem Cls.get {K:PySem.W.Frag}{C:Addr}(c:Cls K C)(f:Str):PySem.W.plainGet K C f=true:=c.pg
def NoAttr (K:PySem.W.Frag)(C:Addr)(f:Str):Prop:=PySem.W.findIn K (.ref C) f=some none
theorem NoAttr.taker {K:PySem.W.Frag}{C:Addr}{f:Str}(n:NoAttr K C f):PySem.W.takerIn K C f=some none:=by
 unfold PySem.W.takerIn
 rw[show PySem.W.findIn K (.ref C) f=some none from n]
 rfl
structure Meth (K:PySem.W.Frag)(C:Addr)(m:Str)(f:Addr):Prop where
 at_:PySem.W.findIn K (.ref C) m=some (some (.ref f))
 fn:PySem.W.isFn K (.ref f)=true
 kp:PySem.W.keepIn K (.ref f)=true
section
variable {X:Cx}{pins:List (Addr×Obj)}{σ:St}{H:Hp}{s:Shared}{a C dx:Addr}{fs:List (Str×V)}{f:Str}{v:V}{A:Around}{E:Value→Shared→Prop}
theorem ZfI {b:Bool}{Q:Value→Shared→Prop}(I:Inv X pins σ H s)(e:H a=some (.ins C dx fs))(c:Cls X.K C)(n:NoAttr X.K C f)(l:fs.lookup f=some v)
  (h:∀u s',Inv X pins σ H s'→RelV v u→Q u s'):wpAny (model X.prog X.w) A (getAttr (.ref a) f b) Q E s:=by
 obtain⟨mA,O,r,_,_,_⟩:=Zdy I.hok e
 obtain⟨u,hu,ru⟩:=RelO.some_of (v:=v) (o:=mA f) (by rw[←l];exact r f)
 exact ZiL I.kIn O (c.get f) c.hd n hu (ZgE ru) (h u _ (I.tok _) ru)
theorem Zca {m:Str}{g:Addr}{pl:Sem Bool}{Q:Value×List Value→Shared→Prop}(I:Inv X pins σ H s)(e:H a=some (.ins C dx fs))(c:Cls X.K C)(k:Meth X.K C m g)(l:fs.lookup m=none)
  (h:Q (.ref g,[.ref a]) s):wpAny (model X.prog X.w) A (getMethod (.ref a) m pl) Q E s:=by
 obtain⟨mA,O,r,_,_,_⟩:=Zdy I.hok e
 have hn:mA m=none:=RelO.none_of (by rw[←l];exact r m)
 exact Zhz I.kIn O (c.get m) k.at_ k.fn hn h
theorem Zfr {y:V}{u:Value}{Q:Unit→Shared→Prop}(I:Inv X pins σ H s)(e:H a=some (.ins C dx fs))(c:Cls X.K C)(n:NoAttr X.K C f)(hl:fs.length<1000)(ry:RelV y u)
  (h:∀s',Inv X pins σ (upd H a (.ins C dx (putF f y fs))) s'→Q () s'):wpAny (model X.prog X.w) A (setAttr (.ref a) f u) Q E s:=by
 obtain⟨mA,O,r,wi,_,ho⟩:=Zdy I.hok e
 have hz:(fs.map (·.1)).length≤sizeLine:=by rw[List.length_map,sizeLine_eq];omega
 refine Zif I.kIn O c.sa c.po n.taker c.hd wi hz fun h' O' sb=>h _ ?_
 have hd:∃o,h'.get? dx=some o:=let ⟨o,_,_,e',_⟩:=O'.ns;⟨o,e'⟩
 refine I.write (x:=a) (e:=dx) (by rw[e];exact True.intro) (.inr ho) (fun b q hb z=>(sb.2 b hb).trans z) hd ?_
 refine⟨by rw[Zau O.ne];exact ho,?_,O.ne,O'.obj,_,O'.ns,fun g=>?_,fun g hg=>?_⟩
 ·have:=ZcJ f y fs;omega
 ·show RelO ((putF f y fs).lookup g) (if g=f then some u else mA g)
  rw[ZaX]
  by_cases q:g=f
  ·rw[if_pos q,if_pos q];exact ry
  ·rw[if_neg q,if_neg q];exact r g
 ·by_cases q:g=f
  ·rw[q];exact(ZcL f y fs).1
  ·refine(ZcL f y fs).2 g (wi g fun z=>hg ?_)
   show (if g=f then some u else mA g)=none
   rw[if_neg q];exact z
theorem Inv.made (I:Inv X pins σ H s):Inv X pins σ (upd (upd H s.heap.objs.size (.own (s.heap.objs.size+1))) (s.heap.objs.size+1) (.ins C s.heap.objs.size []))
  { s with heap:=(s.heap.push PySem.W.emptyDict).push (PySem.W.instObj C s.heap.objs.size) }:=by
 have e1:(s.heap.push PySem.W.emptyDict).get? s.heap.objs.size=some PySem.W.emptyDict:=Heap.get?_push_size s.heap rfl
 have e2:((s.heap.push PySem.W.emptyDict).push (PySem.W.instObj C s.heap.objs.size)).get? (s.heap.objs.size+1)=some (PySem.W.instObj C s.heap.objs.size):=by
  have:=Heap.get?_push_size (s.heap.push PySem.W.emptyDict) (o:=PySem.W.instObj C s.heap.objs.size) rfl
  rwa [Heap.size_push]at this
 have e3:(s.heap.push PySem.W.emptyDict).Ns s.heap.objs.size (fun _=>none):=⟨PySem.W.emptyDict,#[],_,e1,rfl,(fun e he=>absurd he (by simp)),fun _=>rfl⟩
 have I1:=I.laid (a:=s.heap.objs.size) (o:=.own (s.heap.objs.size+1)) (h':=s.heap.push PySem.W.emptyDict) (t':=s.toks) (fun b u q=>Heap.get?_push_of_some _ q) (Nat.le_refl _) ⟨_,e1⟩
 refine I1.laid (a:=s.heap.objs.size+1) (o:=.ins C s.heap.objs.size []) (t':=s.toks) (fun b u q=>Heap.get?_push_of_some _ q) (Nat.le_of_eq (Heap.size_push _ _)) ?_
 have ne:s.heap.objs.size≠s.heap.objs.size+1:=Nat.ne_of_lt (Nat.lt_succ_self _)
 refine⟨by rw[Zau ne,ZaH],Nat.zero_le _,ne,e2,fun _=>none,(Heap.Ns1.of_empty e3).at fun o q=>Heap.get?_push_of_some _ q,fun _=>True.intro,fun y hy=>absurd rfl hy⟩
theorem Zi0 {prog:Program}{w:World}{env:Env}{e:Expr}{f:Str}{pos:Pos}{s:Shared}{Q:Value→Shared→Prop}(hb:attributeBase e f env (eval e env)=eval e env)
  (h:wpAny (model prog w) A (eval e env) (fun o s₁=>wpAny (model prog w) A (getAttr o f true) Q E s₁) E s):wpAny (model prog w) A (eval (.Attribute e f pos) env) Q E s:=
 Attribute_any_ h (by rw[arm_eval_Attribute,hb])
end
def tFld (K:PySem.W.Frag)(ta:TE)(f:Str):TE:=fun σ H Q=>ta σ H fun x H1=>∃a C dx fs v,x=.ref a∧H1 a=some (.ins C dx fs)∧Cls K C∧NoAttr K C f∧fs.lookup f=some v∧Q v H1
def sFld (K:PySem.W.Frag)(ta tv:TE)(f:Str):TS:=fun D σ H=>tv σ H fun y H1=>ta σ H1 fun x H2=>∃a C dx fs,x=.ref a∧H2 a=some (.ins C dx fs)∧Cls K C∧NoAttr K C f∧fs.length<1000 ∧
 D.nx σ (upd H2 a (.ins C dx (putF f y fs)))
section
variable {X:Cx}{o e value:Expr}{f:Str}{pos pos' tpos:Pos}{ta tv:TE}
theorem ZjJ (he:PE X e ta)(hb:attributeBase e f X.env (eval e X.env)=eval e X.env):PE X (.Attribute e f pos) (tFld X.K ta f):=by
 intro pins s σ H Q I h
 refine Zi0 hb (thn (he pins s σ H _ I h) fun u s1 ⟨x,H1,I1,rx,a,C,dx,fs,v,ex,ea,c,n,l,q⟩=>?_)
 subst ex
 obtain rfl:u=Value.ref a:=rx
 exact ZfI I1 ea c n l fun u' s2 I2 ru=>⟨v,H1,I2,ru,q⟩
theorem ZhR (ha:PE X o ta)(hv:PE X value tv)(hs:swapsWith value (some (.Attribute o f pos')) pos.line X.env=pure false):PS X (.Assign [.Attribute o f pos'] value pos) (sFld X.K ta tv f):=by
 intro pins s σ H D I h
 refine plainObj_wpAny_Assign_Attribute (thn (hv pins s σ H _ I h) fun u s1 ⟨y,H1,I1,ry,q⟩=>thn (ha pins s1 σ H1 _ I1 q) fun ov s2 ⟨x,H2,I2,rx,a,C,dx,fs,ex,ea,c,n,l,q2⟩=>?_) hs
 subst ex
 obtain rfl:ov=Value.ref a:=rx
 exact Zfr I2 ea c n l ry fun s3 I3=>⟨σ,_,I3,q2⟩
theorem Ziy {pl:Sem Bool}{m:Str}{apos:Pos}{args:List Expr}{pins:List (Addr×Obj)}{s:Shared}{σ:St}{H:Hp}{Q:Value→Shared→Prop}{te:TE}(he:PE X e te)(I:Inv X pins σ H s)
  (h:te σ H fun x H1=>∃a C dx fs g,x=.ref a∧H1 a=some (.ins C dx fs)∧Cls X.K C∧Meth X.K C m g∧fs.lookup m=none ∧
   ∀s1,Inv X pins σ H1 s1→wpAny (model X.prog X.w) X.A (callWith pos (.ref g) [.ref a] (backTo pos (starEach args X.env)) (backToKw pos (keywordEach [] X.env))) Q X.xe s1)
  (ht:eval (.Call (.Attribute e m apos) args [] pos) X.env=(do
   let ov ←eval e X.env
   standAt apos.atName
   let (f,first) ←holding [ov] (getMethod ov m pl)
   callWith pos f first (backTo pos (starEach args X.env)) (backToKw pos (keywordEach [] X.env)))):
  wpAny (model X.prog X.w) X.A (eval (.Call (.Attribute e m apos) args [] pos) X.env) Q X.xe s:=by
 refine PySem.W.methodCall_KW (pl:=pl) (thn (he pins s σ H _ I h) fun u s1 ⟨x,H1,I1,rx,a,C,dx,fs,g,ex,ea,c,k,l,q⟩=>?_) ht
 subst ex
 obtain rfl:u=Value.ref a:=rx
 exact Zca I1 ea c k l (q s1 I1)
end
section
variable {X:Cx}{pins:List (Addr×Obj)}{σ:St}{H:Hp}{s:Shared}{A:Around}{E:Value→Shared→Prop}{Q:Value→Shared→Prop}{c:Value}{b:Bool}
inductive TyOf (K:PySem.W.Frag) (H:Hp):V→Value→Prop where
 | non:TyOf K H .non (.type "NoneType")
 | bl (x:Bool):TyOf K H (.bl x) (.type "bool")
 | int (i:Int):TyOf K H (.int i) (.type "int")
 | str (x:Str):TyOf K H (.str x) (.type "str")
 | flt (x:UInt64):TyOf K H (.flt x) (.type "float")
 | lst {a:Addr} {xs:List V} (e:H a=some (.lst xs)):TyOf K H (.ref a) (.type "list")
 | frz {a:Addr} {o:Obj} {xs:List V} (e:H a=some (.frz o (.lst xs))):TyOf K H (.ref a) (.type "list")
 | tup {a:Addr} {xs:List V} (e:H a=some (.tup xs)):TyOf K H (.ref a) (.type "tuple")
 | dK {a:Addr} {kvs:List (Key×V)} (e:H a=some (.dK kvs)):TyOf K H (.ref a) (.type "dict")
 | dT {a:Addr} {kvs:List (List Key×V)} (e:H a=some (.dT kvs)):TyOf K H (.ref a) (.type "dict")
 | ins {a C dx:Addr} {fs:List (Str×V)} (e:H a=some (.ins C dx fs)) (cl:Cls K C) (ha:PySem.W.findIn K (.ref C) "__class__"=some (some (.builtin "object.__class__")))
   (hn:PySem.W.specialIn K (.builtin "object.__class__") "__get__"=some (some (.builtin "getset_descriptor.__get__"))) (htk:PySem.W.takesIn K (.builtin "object.__class__")=some true)
   (hm:PySem.W.mroIn K C (.type "object")=some true):TyOf K H (.ref a) (.ref C)
theorem Zgx {x:V}{u t:Value}(I:Inv X pins σ H s)(rx:RelV x u)(ty:TyOf X.K H x t)(e:PySem.W.kitOne X.K t c=some b)(h:∀tk,Q (.bool b) { s with toks:=tk }):
  wpAny (model X.prog X.w) A (call (.builtin "isinstance") [u,c]) Q E s:=by
 cases ty with
 | non=>cases (show u=Value.none from rx);exact PySem.W.kia_one PySem.W.kitx_none I.kIn True.intro e (fun z=>nomatch z) h
 | bl y=>cases (show u=Value.bool y from rx);exact PySem.W.kia_one PySem.W.kitx_bool I.kIn True.intro e (fun z=>nomatch z) h
 | int i=>obtain⟨t,q⟩:=(show ∃t,u=Value.int i t from rx);cases q;exact PySem.W.kia_one PySem.W.kitx_int I.kIn True.intro e (fun z=>nomatch z) h
 | str y=>obtain⟨t,q⟩:=(show ∃t,u=Value.str y t from rx);cases q;exact PySem.W.kia_one PySem.W.kitx_str I.kIn True.intro e (fun z=>nomatch z) h
 | flt y=>obtain⟨t,q⟩:=(show ∃t,u=Value.float y t from rx);cases q;exact PySem.W.kia_one PySem.W.kitx_float I.kIn True.intro e (fun z=>nomatch z) h
 | @lst a xs ea=>
  cases (show u=Value.ref a from rx)
  obtain⟨_,_,n,_,h1⟩:=(show ObjOk X.prog X.w H s.heap a (.lst xs) from I.hok a _ ea)
  exact PySem.W.kia_one PySem.W.kitx_list I.kIn ⟨_,h1,rfl⟩ e (fun z=>nomatch z) h
 | @frz a ob xs ea=>
  cases (show u=Value.ref a from rx)
  obtain⟨_,_,_,n,_,h1⟩:=(show ObjOk X.prog X.w H s.heap a (.frz ob (.lst xs)) from I.hok a _ ea)
  exact PySem.W.kia_one PySem.W.kitx_list I.kIn ⟨_,h1,rfl⟩ e (fun z=>nomatch z) h
 | @tup a xs ea=>
  cases (show u=Value.ref a from rx)
  obtain⟨_,_,_,p⟩:=(show ObjOk X.prog X.w H s.heap a (.tup xs) from I.hok a _ ea)
  obtain⟨o,h1,h2,_⟩:=p
  exact PySem.W.kia_one PySem.W.kitx_tuple I.kIn ⟨o,h1,h2⟩ e (fun z=>nomatch z) h
 | @dK a kvs ea=>
  cases (show u=Value.ref a from rx)
  obtain⟨_,_,vs,_,p⟩:=(show ObjOk X.prog X.w H s.heap a (.dK kvs) from I.hok a _ ea)
  obtain⟨o,es,ep,h1,h2,_⟩:=p
  exact PySem.W.kia_one PySem.W.kitx_dict I.kIn ⟨o,h1,h2.1⟩ e (fun z=>nomatch z) h
 | @dT a kvs ea=>
  cases (show u=Value.ref a from rx)
  obtain⟨_,_,xs,_,o,es,ep,h1,h2,_⟩:=(show ObjOk X.prog X.w H s.heap a (.dT kvs) from I.hok a _ ea)
  exact PySem.W.kia_one PySem.W.kitx_dict I.kIn ⟨o,h1,h2.1⟩ e (fun z=>nomatch z) h
 | @ins a C dx fs ea cl ha hn htk hm=>
  cases (show u=Value.ref a from rx)
  obtain⟨mA,O,_⟩:=Zdy I.hok ea
  obtain⟨od,J,_⟩:=O.look
  exact PySem.W.kia_one (PySem.W.kitx_own (cl.get _) cl.hd ha hn htk hm) I.kIn J e (fun z=>nomatch z) h
end
structure Room (k:Nat)(A:Around):Prop where
 hd:A.handled=none
 dp:A.depth+3*k+5<recursionLimit
 un:A.units+16*k+200<cLine
theorem Room.mono {j k:Nat}{A:Around}(r:Room k A)(h:j≤k):Room j A:=⟨r.hd,by have:=r.dp;omega,by have:=r.un;omega⟩
theorem Room.deeper {k:Nat}{A:Around}(r:Room (k+1) A)(env:Env):Room k (A.deeper env):=
 ⟨r.hd,by have:=r.dp;show A.depth+1+3*k+5<_;omega,by have:=r.un;show A.units+3+16*k+200<_;omega⟩
theorem ZfB {A:Around}{C:Addr}{us:List Value}{kw:List (Str×Value)}:(A.under (.builtin "type.__call__" ⟨.ref C::us,kw⟩)).depth=A.depth+1:=by
 first | rfl | simp[Around.under,Code.weight,Code.isCreation,Code.isGuard,Code.isCaller,Code.frames,Code.isFrame,guardIds]
theorem ZfA {A:Around}{C:Addr}{us:List Value}{kw:List (Str×Value)}:(A.under (.builtin "type.__call__" ⟨.ref C::us,kw⟩)).units=A.units+1:=by
 first | rfl | simp[Around.under,Code.cUnits,Code.frames,Code.isFrame]
theorem Room.make {k:Nat}{A:Around}(r:Room (k+1) A)(C:Addr)(us:List Value)(kw:List (Str×Value)):Room k (A.under (.builtin "type.__call__" ⟨.ref C::us,kw⟩)):=
 ⟨r.hd,by have:=r.dp;rw[ZfB];omega,by have:=r.un;rw[ZfA];omega⟩
theorem Room.depth {k:Nat}{A:Around}(r:Room k A):A.depth<recursionLimit:=by have:=r.dp;omega
theorem Room.units {k:Nat}{A:Around}(r:Room k A):A.units+64<cLine:=by have:=r.un;omega
def tNil:TA:=fun _ H Q=>Q [] H
def Zf0 (ta:TE)(tr:TA):TA:=fun σ H Q=>ta σ H fun x H1=>tr σ H1 fun xs H2=>Q (x::xs) H2
section
variable {X:Cx}{e:Expr}{es:List Expr}{te:TE}{t:TA}{pos:Pos}
theorem Zad:PA X [] tNil:=fun _ _ _ _ H Q I h=>Calls.spliced_nil ⟨[],H,I,.nil,h⟩
theorem Zaa (ha:PE X e te)(hr:PA X es t)(hs:starEach (e::es) X.env=(false,eval e X.env)::starEach es X.env:=by rfl):PA X (e::es) (Zf0 te t):=by
 intro pos pins s σ H Q I h
 rw[hs]
 show wpAny _ _ (spliced ((false,eval e X.env)::backTo pos (starEach es X.env))) _ _ s
 refine Calls.spliced_cons (thn (ha pins s σ H _ I h) fun u s1 ⟨x,H1,I1,r1,q1⟩=>?_)
 exact thn (hr pos pins s1 σ H1 _ I1 q1) fun us s2 ⟨xs,H2,I2,r2,q2⟩=>⟨x::xs,H2,I2,.cons r1 r2,q2⟩
def tTup (t:TA):TE:=fun σ H Q=>t σ H fun xs H1=>xs.length≤sizeLine∧∀p,H1 p=none→Q (.ref p) (upd H1 p (.tup xs))
def tLst (t:TA):TE:=fun σ H Q=>t σ H fun xs H1=>xs.length≤sizeLine∧∀p,H1 p=none→Q (.ref p) (upd H1 p (.lst xs))
theorem Zc5 {x1}(h:PA X es t):PE X (.Tuple es x1 pos) (tTup t):=by
 intro pins s σ H Q I hq
 refine wpAny_Tuple_spliced (thn (h pos pins s σ H _ I hq) fun us s1 ⟨xs,H1,I1,r,z,q⟩=>⟨by rw[←r.length];exact z,?_⟩)
 have hf:H1 s1.heap.objs.size=none:=I1.hok.fresh (Nat.le_refl _)
 refine⟨.ref s1.heap.objs.size,upd H1 s1.heap.objs.size (.tup xs),I1.laid (t':=s1.toks) (fun b u e=>Heap.get?_push_of_some _ e) (Nat.le_refl _) ?_,rfl,q _ hf⟩
 exact⟨z,us,r,⟨_,Heap.get?_push_size _ rfl,rfl,_,rfl⟩⟩
theorem Zgh (h:PA X es t):PE X (.List es pos) (tLst t):=by
 intro pins s σ H Q I hq
 refine wpAny_List_spliced (thn (h pos pins s σ H _ I hq) fun us s1 ⟨xs,H1,I1,r,z,q⟩=>⟨by rw[←r.length];exact z,?_⟩)
 have hf:H1 s1.heap.objs.size=none:=I1.hok.fresh (Nat.le_refl _)
 refine⟨.ref s1.heap.objs.size,upd H1 s1.heap.objs.size (.lst xs),I1.laid (t':=s1.toks) (fun b u e=>Heap.get?_push_of_some _ e) (Nat.le_refl _) ?_,rfl,q _ hf⟩
 exact⟨z,us,0,r,Heap.get?_push_size _ rfl⟩
end
abbrev Sp:=List V→Hp→VK→XK→Prop
abbrev CXT:=List Env→Hp→Shared→XK→Value→Shared→Prop
structure Env0 (P:Program)(w:World)(K:PySem.W.Frag)(mg:Str→Option Value)(base:Heap)(A:Around)(outer:List Env)(s:Shared)(H:Hp):Prop where
 frames:A.frames=some outer
 mod:Mod K mg base
 bs:∀b o,base.get? b=some o→s.heap.get? b=some o∧H b=none
 bsz:base.objs.size≤s.heap.objs.size
 funs:s.heap.FunFrames base outer
 frf:∀b∈frs outer,H b=none
 hok:HOk P w H s.heap
 bare:AllBare s.gens
def CE (outer:List Env)(P:Program)(w:World)(H:Hp)(s:Shared)(Q:VK)(u:Value)(s':Shared):Prop:=
 ∃v H',s'.os=s.os∧AllBare s'.gens∧Un (frs outer) [] H H' s.heap s'.heap∧HOk P w H' s'.heap∧RelV v u∧Q v H'
def CR (CX:CXT)(outer:List Env)(P:Program)(w:World)(H:Hp)(s:Shared)(Q:VK)(E:XK)(r:Result)(s':Shared):Prop:=
 match r with
 | .ok (.ret u)=>CE outer P w H s Q u s'
 | .ok _=>False
 | .error e=>CX outer H s E e s'
structure FnOk (P:Program)(w:World)(K:PySem.W.Frag)(mg:Str→Option Value)(base:Heap)(CX:CXT)(k:Nat)(f:Addr)(fd:FuncData)(ps:List Str)(sp:Sp):Prop where
 len:∀vs H Q E,sp vs H Q E→vs.length=ps.length
 run:∀(A:Around) (outer:List Env) (s:Shared) (H:Hp) (args:Args) (us:List Value) (vs:List V) (Q:VK) (E:XK),Room k A→Env0 P w K mg base A outer s H→BindsTo s fd args (ps.zip us)→Vals vs us→sp vs H Q E →
  codeAny (model P w) A (.call (.ref f) args) (CR CX outer P w H s Q E) s
theorem Env0.make {P:Program}{w:World}{K:PySem.W.Frag}{mg:Str→Option Value}{base:Heap}{A:Around}{outer:List Env}{s:Shared}{H:Hp}(e:Env0 P w K mg base A outer s H)(C:Addr)(us:List Value)(kw:List (Str×Value)):
  Env0 P w K mg base (A.under (.builtin "type.__call__" ⟨.ref C::us,kw⟩)) outer s H:=⟨by first | exact e.frames | (simpa [Around.under,Code.envs,Code.isFrame,pushEnvs] using e.frames),e.mod,e.bs,e.bsz,e.funs,e.frf,e.hok,e.bare⟩
section
variable {X:Cx}{pins:List (Addr×Obj)}{σ:St}{H:Hp}{s s':Shared}
theorem Inv.env0 (I:Inv X pins σ H s):Env0 X.prog X.w X.K X.mg X.base X.A X.stack s H:=
 ⟨I.ok.frames,I.ok.mod,I.bs,Nat.le_trans I.ok.bsz I.sz,I.stack,I.stkFree,I.hok,I.bare⟩
theorem Inv.after {Q:VK}{u:Value}(I:Inv X pins σ H s)(h:CE X.stack X.prog X.w H s Q u s'):EP X pins σ Q u s':=by
 obtain⟨v,H',os,bare,un,hok,r,q⟩:=h
 obtain⟨hh,g,d,t,os'⟩:=s'
 obtain rfl:os'=s.os:=os
 exact⟨v,H',I.call (h':=hh) (g':=g) (d':=d) (t':=t) (ch:=[]) un hok bare (fun b z=>absurd z (by simp)),r,q⟩
end
def Zg1 (sp:Sp)(dvs:List V)(E:XK)(t:TA):TE:=fun σ H Q=>t σ H fun vs H1=>sp (vs++dvs) H1 Q E
def Zib (C:Addr)(m:Str)(sp:Sp)(dvs:List V)(E:XK)(ta:TE)(t:TA):TE:=fun σ H Q=>ta σ H fun x H1=>∃a dx fs,x=.ref a∧H1 a=some (.ins C dx fs)∧fs.lookup m=none ∧
 t σ H1 fun vs H2=>sp (x::(vs++dvs)) H2 Q E
def Zjh (C:Addr)(sp:Sp)(dvs:List V)(E:XK)(t:TA):TE:=fun σ H Q=>t σ H fun vs H1=>∀x dx,H1 x=none→H1 dx=none→dx≠x →
 sp (.ref x::(vs++dvs)) (upd (upd H1 dx (.own x)) x (.ins C dx [])) (fun v H2=>v=.non∧Q (.ref x) H2) E
def Binds (K:PySem.W.Frag)(fd:FuncData)(ps:List Str)(ds:List Value):Prop:=
 ∀(s:Shared) (us:List Value),K.In s.heap→(us++ds).length=ps.length→BindsTo s fd ⟨us,[]⟩ (ps.zip (us++ds))
theorem Binds.all {K:PySem.W.Frag}{fd:FuncData}{ps:List Str}(h:∀us:List Value,us.length=ps.length→bindArgs fd ⟨us,[]⟩=pure (ps.zip us)):Binds K fd ps []:=fun s us _ hl=>by
 rw[List.append_nil]at hl ⊢
 exact .of_eq (h us hl)
def Zb4 (CX:CXT)(X:Cx)(E:XK):Prop:=∀(pins:List (Addr×Obj)) (σ:St) (H:Hp) (s:Shared) (e:Value) (s':Shared),Inv X pins σ H s→CX X.stack H s E e s'→X.xe e s'
section
variable {X:Cx}{CX:CXT}{k:Nat}{f C:Addr}{fd:FuncData}{ps:List Str}{sp:Sp}{dvs:List V}{ds:List Value}{E:XK}{x m:Str}{p pos apos:Pos}{e o:Expr}{es:List Expr}{ta:TE}{t:TA}
theorem ZeY {pins:List (Addr×Obj)}{σ:St}{H:Hp}{s:Shared}{Q:VK}{us:List Value}{vs:List V}(F:FnOk X.prog X.w X.K X.mg X.base CX k f fd ps sp)(hr:Room k X.A)(hb:Binds X.K fd ps ds)(hd:Vals dvs ds)(hx:Zb4 CX X E)
  (I:Inv X pins σ H s) (r:Vals vs us) (h:sp (vs++dvs) H Q E):wpAny (model X.prog X.w) X.A (call (.ref f) us) (EP X pins σ Q) X.xe s:=by
 have r2:Vals (vs++dvs) (us++ds):=r.append hd
 have hl:(us++ds).length=ps.length:=by rw[←r2.length];exact F.len _ _ _ _ h
 refine wpAny_call (codeAny_mono (F.run X.A X.stack s H ⟨us,[]⟩ (us++ds) (vs++dvs) Q E hr I.env0 (hb s us I.kIn hl) r2 h) fun r s' hq=>?_)
 cases r with
 | error e=>exact hx pins σ H s e s' I hq
 | ok fl=>
  cases fl with
  | ret u=>exact I.after hq
  | next=>exact False.elim hq
  | brk=>exact False.elim hq
  | cont=>exact False.elim hq
theorem Zao (F:FnOk X.prog X.w X.K X.mg X.base CX k f fd ps sp)(hr:Room k X.A)(hg:Gl X x)(hm:X.mg x=some (.ref f))(hk:PySem.W.keepIn X.K (.ref f)=true)(hb:Binds X.K fd ps ds)(hd:Vals dvs ds)(hx:Zb4 CX X E)
  (ha:PA X (e::es) t) (hdb:(x == ("__debug__":Str))=false:=by decide) (he:starEach (e::es) X.env=(false,eval e X.env)::starEach es X.env:=by rfl) (hpl:(backTo pos (starEach es X.env)).any (·.1)=false:=by rfl):
  PE X (.Call (.Name x p) (e::es) [] pos) (Zg1 sp dvs E t):=by
 intro pins s σ H Q I h
 refine wpAny_Call_Name_kw (ZbN I hg hm ?_ hdb)
 refine PySem.W.callWith_K (h₀:=X.base) I.ok.mod.kin hk (thn (ha pos pins s σ H _ I h) fun us s1 ⟨vs,H1,I1,r,q⟩=>⟨I1.kIn,?_⟩) he hpl
 exact ZeY F hr hb hd hx I1 r q
theorem ZbM {pl:Sem Bool}(he:PE X o ta)(c:Cls X.K C)(hm:Meth X.K C m f)(F:FnOk X.prog X.w X.K X.mg X.base CX k f fd ps sp)(hr:Room k X.A)(hb:Binds X.K fd ps ds)(hd:Vals dvs ds)(hx:Zb4 CX X E)(ha:PA X (e::es) t)
  (hst:starEach (e::es) X.env=(false,eval e X.env)::starEach es X.env:=by rfl) (hpl:(backTo pos (starEach es X.env)).any (·.1)=false:=by rfl)
  (ht:eval (.Call (.Attribute o m apos) (e::es) [] pos) X.env=(do
   let ov ←eval o X.env
   standAt apos.atName
   let (f,first) ←holding [ov] (getMethod ov m pl)
   callWith pos f first (backTo pos (starEach (e::es) X.env)) (backToKw pos (keywordEach [] X.env))):=by rfl):
  PE X (.Call (.Attribute o m apos) (e::es) [] pos) (Zib C m sp dvs E ta t):=by
 intro pins s σ H Q I h
 refine PySem.W.methodCall_KW (pl:=pl) (thn (he pins s σ H _ I h) fun u s1 ⟨x,H1,I1,rx,a,dx,fs,ex,ea,l,q⟩=>?_) ht
 subst ex
 obtain rfl:u=Value.ref a:=rx
 refine Zca I1 ea c hm l ?_
 refine PySem.W.callWith_K (first:=[.ref a]) (h₀:=X.base) I.ok.mod.kin hm.kp (thn (ha pos pins s1 σ H1 _ I1 q) fun us s2 ⟨vs,H2,I2,r,q2⟩=>⟨I2.kIn,?_⟩) hst hpl
 exact ZeY (us:=.ref a::us) (vs:=.ref a::vs) F hr hb hd hx I2 (.cons rfl r) q2
theorem Za4 {pl:Sem Bool}(he:PE X o ta)(c:Cls X.K C)(hm:Meth X.K C m f)(F:FnOk X.prog X.w X.K X.mg X.base CX k f fd ps sp)(hr:Room k X.A)(hb:Binds X.K fd ps ds)(hd:Vals dvs ds)(hx:Zb4 CX X E)
  (ht:eval (.Call (.Attribute o m apos) [] [] pos) X.env=(do
   let ov ←eval o X.env
   standAt apos.atName
   let (f,first) ←holding [ov] (getMethod ov m pl)
   callWith pos f first (backTo pos (starEach [] X.env)) (backToKw pos (keywordEach [] X.env))):=by rfl):
  PE X (.Call (.Attribute o m apos) [] [] pos) (Zib C m sp dvs E ta tNil):=by
 intro pins s σ H Q I h
 refine PySem.W.methodCall_KW (pl:=pl) (thn (he pins s σ H _ I h) fun u s1 ⟨x,H1,I1,rx,a,dx,fs,ex,ea,l,q⟩=>?_) ht
 subst ex
 obtain rfl:u=Value.ref a:=rx
 refine Zca I1 ea c hm l ?_
 exact PySem.W.callWith_K0 (first:=[.ref a]) I1.kIn hm.kp (ZeY (us:=[.ref a]) (vs:=[.ref a]) F hr hb hd hx I1 (.cons rfl .nil) q)
structure Mk (K:PySem.W.Frag)(C f:Addr):Prop where
 makes:PySem.W.makesIn K C=true
 init:PySem.W.findIn K (.ref C) "__init__"=some (some (.ref f))
 fn:PySem.W.isFn K (.ref f)=true
 kp:PySem.W.keepIn K (.ref C)=true
theorem Zg8 {pins:List (Addr×Obj)}{σ:St}{H:Hp}{s:Shared}{Q:VK}{us:List Value}{vs:List V}(M:Mk X.K C f)(F:FnOk X.prog X.w X.K X.mg X.base CX k f fd ps sp)(hr:Room (k+1) X.A)(hb:Binds X.K fd ps ds)(hd:Vals dvs ds)
  (hx:Zb4 CX X E) (I:Inv X pins σ H s) (r:Vals vs us)
  (h:∀x dx,H x=none→H dx=none→dx≠x→sp (.ref x::(vs++dvs)) (upd (upd H dx (.own x)) x (.ins C dx [])) (fun v H2=>v=.non∧Q (.ref x) H2) E):
  wpAny (model X.prog X.w) X.A (call (.ref C) us) (EP X pins σ Q) X.xe s:=by
 have hq:=h (s.heap.objs.size+1) s.heap.objs.size (I.hok.fresh (Nat.le_succ _)) (I.hok.fresh (Nat.le_refl _)) (Nat.ne_of_lt (Nat.lt_succ_self _))
 have I2:=Inv.made (C:=C) I
 have r2:Vals (V.ref (s.heap.objs.size+1)::(vs++dvs)) (Value.ref (s.heap.objs.size+1)::(us++ds)):=.cons rfl (r.append hd)
 have hl:(Value.ref (s.heap.objs.size+1)::us++ds).length=ps.length:=by
  have e:=r2.length
  rw[F.len _ _ _ _ hq]at e
  exact e.symm
 refine wpAny_call (Zhr (f:=f) I.kIn M.makes M.init (beq_iff_eq.mp M.fn) (codeAny_mono (F.run _ X.stack _ _ ⟨Value.ref (s.heap.objs.size+1)::us,[]⟩ (Value.ref (s.heap.objs.size+1)::(us++ds)) _ _ E (hr.make C us [])
  (I2.env0.make C us []) (hb _ (Value.ref (s.heap.objs.size+1)::us) I2.kIn hl) r2 hq) fun r s' hq'=>?_))
 cases r with
 | error e=>exact hx pins σ _ _ e s' I2 hq'
 | ok fl=>
  cases fl with
  | ret u=>
   obtain⟨v,H',I3,rv,ev,q3⟩:=I2.after hq'
   subst ev
   exact⟨rv,⟨V.ref (s.heap.objs.size+1),H',I3,rfl,q3⟩⟩
  | next=>exact False.elim hq'
  | brk=>exact False.elim hq'
  | cont=>exact False.elim hq'
theorem ZeD (M:Mk X.K C f)(F:FnOk X.prog X.w X.K X.mg X.base CX k f fd ps sp)(hr:Room (k+1) X.A)(hg:Gl X x)(hm:X.mg x=some (.ref C))(hb:Binds X.K fd ps ds)(hd:Vals dvs ds)(hx:Zb4 CX X E)
  (ha:PA X (e::es) t) (hdb:(x == ("__debug__":Str))=false:=by decide) (he:starEach (e::es) X.env=(false,eval e X.env)::starEach es X.env:=by rfl) (hpl:(backTo pos (starEach es X.env)).any (·.1)=false:=by rfl):
  PE X (.Call (.Name x p) (e::es) [] pos) (Zjh C sp dvs E t):=by
 intro pins s σ H Q I h
 refine wpAny_Call_Name_kw (ZbN I hg hm ?_ hdb)
 refine PySem.W.callWith_K (h₀:=X.base) I.ok.mod.kin M.kp (thn (ha pos pins s σ H _ I h) fun us s1 ⟨vs,H1,I1,r,q⟩=>⟨I1.kIn,?_⟩) he hpl
 exact Zg8 M F hr hb hd hx I1 r q
end
section
variable {X:Cx}{CX:CXT}{k:Nat}{f C:Addr}{fd:FuncData}{ps ks:List Str}{sp:Sp}{E:XK}{x m:Str}{p pos apos kpos:Pos}{e o:Expr}{es:List Expr}{kws:List Keyword}{te ta:TE}{t tk:TA}{nm:Option Str}
variable {g:List Value→List Value→List Value}{gV:List V→List V→List V}
end
structure FnScope (N P:List Str)(sc:Scope):Prop where
 kind:sc.kind=.function
 co:sc.isCoroutine=false
 gen:sc.isGenerator=false
 nd:N.Nodup
 pre:N.take P.length=P
 par:∀x∈P,sc.names.lookup x=some .local∨sc.names.lookup x=some .cell
 nofree:∀y∈sc.names,y.2≠.free
theorem Zek {kindOf:Str→Option NameKind}{x:Str}:∀ {binds:List (Str×Value)} {m:Str→Option Value},(∀v,(x,v)∉binds)→bindL kindOf binds m x=m x
 | [],_,_=>rfl
 | (n,v)::r,m,h=>by
  unfold bindL
  rw[Zek fun w hw=>h w (List.mem_cons_of_mem _ hw)]
  split
  ·have:x≠n:=by rintro rfl;exact h v List.mem_cons_self
   simp[this]
  ·rfl
theorem Zem {kindOf:Str→Option NameKind}{x:Str}:∀ {binds:List (Str×Value)} {m:Str→Option Value},(∀v,(x,v)∉binds)→bindC kindOf binds m x=m x
 | [],_,_=>rfl
 | (n,v)::r,m,h=>by
  unfold bindC
  rw[Zem fun w hw=>h w (List.mem_cons_of_mem _ hw)]
  split
  ·rfl
  ·have:x≠n:=by rintro rfl;exact h v List.mem_cons_self
   simp[this]
theorem Zel {kindOf:Str→Option NameKind}{x:Str}{v:Value}:∀ {P:List Str} {vs:List Value} {i:Nat} {m:Str→Option Value},P.Nodup→P[i]?=some x→vs[i]?=some v→kindOf x=some .local →
  bindL kindOf (P.zip vs) m x=some v
 | [],_,_,_,_,h,_,_=>by simp at h
 | _::_,[],_,_,_,_,h,_=>by simp at h
 | p::P,w::vs,0,m,nd,h1,h2,hk=>by
  simp at h1 h2;subst h1;subst h2
  show bindL kindOf ((p,w)::P.zip vs) m p=_
  unfold bindL
  rw[Zek fun v hv=>(List.nodup_cons.mp nd).1 (List.of_mem_zip hv).1,if_pos hk]
  simp
 | p::P,w::vs,i+1,m,nd,h1,h2,hk=>by
  show bindL kindOf ((p,w)::P.zip vs) m x=_
  unfold bindL
  exact Zel (i:=i) (List.nodup_cons.mp nd).2 (by simpa using h1) (by simpa using h2) hk
theorem Zen {kindOf:Str→Option NameKind}{x:Str}{v:Value}:∀ {P:List Str} {vs:List Value} {i:Nat} {m:Str→Option Value},P.Nodup→P[i]?=some x→vs[i]?=some v→kindOf x≠some .local →
  bindC kindOf (P.zip vs) m x=some v
 | [],_,_,_,_,h,_,_=>by simp at h
 | _::_,[],_,_,_,_,h,_=>by simp at h
 | p::P,w::vs,0,m,nd,h1,h2,hk=>by
  simp at h1 h2;subst h1;subst h2
  show bindC kindOf ((p,w)::P.zip vs) m p=_
  unfold bindC
  rw[Zem fun v hv=>(List.nodup_cons.mp nd).1 (List.of_mem_zip hv).1,if_neg hk]
  simp
 | p::P,w::vs,i+1,m,nd,h1,h2,hk=>by
  show bindC kindOf ((p,w)::P.zip vs) m x=_
  unfold bindC
  exact Zen (i:=i) (List.nodup_cons.mp nd).2 (by simpa using h1) (by simpa using h2) hk
def start (N:List Str)(vs:List V):St:=vs.map some++List.replicate (N.length-vs.length) none
def cxOf (CX:CXT)(P:Program)(w:World)(K:PySem.W.Frag)(mg:Str→Option Value)(base:Heap)(N:List Str)(qual:Str)(scope:Scope)(f:Addr)(cd:Value)(A:Around)(outer:List Env)(s:Shared)(H:Hp)(E:XK):Cx where
 prog:=P
 w:=w
 K:=K
 mg:=mg
 base:=base
 A:=A.deeper (envOfC qual scope s.heap.objs.size f cd)
 N:=N
 s₀:=s
 H₀:=H
 env:=envOfC qual scope s.heap.objs.size f cd
 outer:=outer
 stack:=envOfC qual scope s.heap.objs.size f cd::outer
 ex:=[]
 calm:=true
 fn:=fun _=>true
 pn:=[]
 xe:=fun e s'=>wpAny (model P w) (A.deeper (envOfC qual scope s.heap.objs.size f cd)) (leaving (envOfC qual scope s.heap.objs.size f cd) e) (fun _ s''=>CX outer H s E e s'') (fun e' s''=>CX outer H s E e' s'') s'
theorem Zfi {sc:Scope}{n:Nat}{x:Str}(h:sc.names.lookup x=some .cell):∃c,(cellsFrom n sc.names []).lookup x=some c:=by
 have q:=PySem.W.cellsFrom_some sc.names n [] (.inl h)
 exact Option.isSome_iff_exists.mp q
theorem Zgy {CX:CXT}{P:Program}{w:World}{K:PySem.W.Frag}{mg:Str→Option Value}{base:Heap}{N ps:List Str}{qual:Str}{scope:Scope}{f:Addr}{cd:Value}{A:Around}{outer:List Env}{s s1:Shared}{H:Hp}{E:XK}{us:List Value}{vs:List V}
  (S:FnScope N ps scope) (hd:A.handled=none) (e0:Env0 P w K mg base A outer s H) (hl:vs.length=ps.length) (r:Vals vs us)
  (x:InCallC s s.heap.objs.size (bindL (envOfC qual scope s.heap.objs.size f cd).kindOf (ps.zip us) fun _=>none) (cellsFrom (s.heap.objs.size+1) scope.names []) (bindC (envOfC qual scope s.heap.objs.size f cd).kindOf (ps.zip us) fun _=>none) s1):
  Inv (cxOf CX P w K mg base N qual scope f cd A outer s H E) [] (start N vs) H s1:=by
 have hpl:ps.length≤N.length:=by have:=congrArg List.length S.pre;rw[List.length_take]at this;omega
 obtain⟨h1,tk,rfl,hk⟩:=x.done
 have noA:∀b:Addr,b∉(cxOf CX P w K mg base N qual scope f cd A outer s H E).ex:=fun b z=>absurd (show b∈([]:List Addr) from z) (by simp)
 refine⟨⟨e0.mod,S.kind,rfl,rfl,Nat.le_refl _,fun y z c h1 h2=>?_,fun y hy=>?_,fun y c _ h=>?_,fun _=>hd,Around.frames_deeper e0.frames,.inr ⟨rfl,rfl⟩,fun b z=>absurd z (noA b),e0.bs,e0.bsz,fun b _ _=>noA b,fun b z=>absurd z (noA b),e0.funs,e0.frf⟩,
  rfl,e0.bare,Un.kept hk,⟨_,x.toInCall.ns,fun i y v h1 h2 h3=>?_⟩,fun y c h=>⟨_,x.cell y c h⟩,e0.hok.fresh (Nat.le_refl _),fun y c h=>?_,fun p hp=>absurd (show p∈([]:List (Addr×Obj)) from hp) (by simp),e0.hok.kept hk,?_⟩
 ·exact name_of_addr x.apart (PySem.mem_of_lookup h1) (PySem.mem_of_lookup h2)
 ·have hy:scope.names.lookup y=some .cell∨scope.names.lookup y=some .free:=hy
  rcases hy with hy | hy
  ·exact Zfi hy
  ·exact absurd rfl (S.nofree _ (PySem.mem_of_lookup hy))
 ·exact Nat.le_of_lt (x.above y c (PySem.mem_of_lookup h))
 ·have hi:i<vs.length:=by
   unfold start at h2
   by_cases hi:i<vs.length
   ·exact hi
   ·rw[List.getElem?_append_right (by simpa using hi)]at h2
    rw[List.getElem?_replicate]at h2
    split at h2<;>cases h2
  have ha:vs[i]?=some v:=by
   unfold start at h2
   rw[List.getElem?_append_left (by simpa using hi),List.getElem?_map]at h2
   cases e:vs[i]? with
   | none=>rw[e]at h2;cases h2
   | some a=>rw[e]at h2;cases h2;rfl
  obtain⟨u,hu,rv⟩:=r.get ha
  have hp:ps[i]?=some y:=by
   rw[←S.pre,List.getElem?_take_of_lt (by omega)];exact h1
  have ndP:ps.Nodup:=by rw[←S.pre];exact S.nd.sublist (List.take_sublist _ _)
  refine⟨u,rv,?_⟩
  rcases S.par y (List.mem_of_getElem? hp) with k | k
  ·exact .inl ⟨k,Zel ndP hp hu k⟩
  ·obtain⟨c,e⟩:=Zfi (n:=s.heap.objs.size+1) k
   refine .inr ⟨.inl k,c,e,?_⟩
   have q:=x.cell y c e
   rw[Zen ndP hp hu (by show scope.names.lookup y≠_;rw[k];decide)]at q
   exact q
 ·exact e0.hok.fresh (Nat.le_of_lt (x.above y c (PySem.mem_of_lookup h)))
 ·unfold start
  show _=N.length
  rw[List.length_append,List.length_map,List.length_replicate]
  omega
theorem Zki {CX:CXT}{P:Program}{w:World}{K:PySem.W.Frag}{mg:Str→Option Value}{base:Heap}{k:Nat}{f:Addr}{name qual:Str}{params:Arguments}{body:List Stmt}{scope:Scope}{dV kV doc pm cdv ct oc:Value}{an od:Option Addr}
  {osl:Array (Option Value)} {N ps:List Str} {sp:Sp} (lk:K.lookup f=some ⟨oc,od,.func (PySem.W.fnOf name qual params body scope dV kV doc pm an cdv ct),osl⟩) (hcd:PySem.W.codeIn K cdv qual=true) (S:FnScope N ps scope)
  (len:∀vs H Q E,sp vs H Q E→vs.length=ps.length)
  (hbody:∀(A:Around) (outer:List Env) (s:Shared) (H:Hp) (vs:List V) (Q:VK) (E:XK),Room k (A.deeper (envOfC qual scope s.heap.objs.size f cdv))→sp vs H Q E →
   ∃t,PSs (cxOf CX P w K mg base N qual scope f cdv A outer s H E) body t∧t { nx:=fun _ H'=>Q .non H',rt:=Q } (start N vs) H):
  FnOk P w K mg base CX (k+1) f (PySem.W.fnOf name qual params body scope dV kV doc pm an cdv ct) ps sp:=by
 refine⟨len,fun A outer s H args us vs Q E hr e0 hb r hsp=>?_⟩
 have hl:=len _ _ _ _ hsp
 have KX:K.In s.heap:=e0.mod.kin.keeps fun b o e=>(e0.bs b o e).1
 have lim:s.heap.NoLimit:=e0.mod.nolimit.keeps fun b o e=>(e0.bs b o e).1
 have hkind:∀y∈ps.zip us,scope.names.lookup y.1=some .local∨(scope.names.lookup y.1=some .cell∧((cellsFrom (s.heap.objs.size+1) scope.names []).lookup y.1).isSome=true):=fun ⟨n,v⟩ hy=>by
  rcases S.par n (List.of_mem_zip hy).1 with q | q
  ·exact .inl q
  ·exact .inr ⟨q,PySem.W.cellsFrom_some _ _ _ (.inl q)⟩
 refine codeAny_call_function hr.depth (KX _ _ lk) rfl S.co S.gen rfl (PySem.W.codeRec_of KX hcd) (hb _ _ _ _ ?_)
 refine wpAny_newFunctionEnv_cells S.kind hkind fun env he s1 x=>?_
 subst he
 refine⟨lim.keeps x.toInCall.keep,codeAny_func ?_⟩
 obtain⟨t,ht,hq⟩:=hbody A outer s H vs Q E (hr.deeper _) hsp
 have I:Inv (cxOf CX P w K mg base N qual scope f cdv A outer s H E) [] (start N vs) H s1:=Zgy S hr.hd e0 hl r x
 refine wpAny_mono (ht [] s1 (start N vs) H _ I hq) (fun fl s' hs=>?_) fun e s' hs=>hs
 have fin:∀ {σ':St} {H':Hp} {v:V} {u:Value},Inv (cxOf CX P w K mg base N qual scope f cdv A outer s H E) [] σ' H' s'→RelV v u→Q v H'→CE outer P w H s Q u s':=
  fun {σ' H' v u} J rv q=>⟨v,H',J.os,J.bare,J.base,J.hok,rv,q⟩
 cases fl with
 | ret u=>
  obtain⟨v,σ',H',J,rv,q⟩:=hs
  exact fin J rv q
 | next=>
  obtain⟨σ',H',J,q⟩:=hs
  exact fin (v:=V.non) (u:=Value.none) J rfl q
 | brk=>
  obtain⟨_,_,_,q⟩:=hs
  exact False.elim q
 | cont=>
  obtain⟨_,_,_,q⟩:=hs
  exact False.elim q
section
variable {X:Cx}{x:Str}{p pos:Pos}{e:Expr}{es:List Expr}{t:TA}{id T:String}{r:List V→Hp→VK→Prop}
def tCB (r:List V→Hp→VK→Prop)(t:TA):TE:=fun σ H Q=>t σ H fun vs H1=>r vs H1 Q
theorem Zak (hc:Zcl X (.builtin id) r) (hg:Gl X x) (hm:X.mg x=none) (hv:bootBuiltins x=some (.builtin id)) (ha:PA X (e::es) t) (hn:x≠"__name__":=by decide) (hdb:(x == ("__debug__":Str))=false:=by decide)
  (he:starEach (e::es) X.env=(false,eval e X.env)::starEach es X.env:=by rfl) (hpl:(backTo pos (starEach es X.env)).any (·.1)=false:=by rfl):PE X (.Call (.Name x p) (e::es) [] pos) (tCB r t):=by
 intro pins s σ H Q I h
 refine wpAny_Call_Name_kw (Zd6 I hg hm hv ?_ hn hdb)
 exact PyProof.Rows.callWith_builtin1 (thn (ha pos pins s σ H _ I h) fun us s1 ⟨vs,H1,I1,r1,q1⟩=>hc pins s1 σ H1 vs us Q I1 r1 q1) he hpl
theorem Zbi (hc:Zcl X (.type T) r) (hg:Gl X x) (hm:X.mg x=none) (hv:bootBuiltins x=some (.type T)) (ha:PA X (e::es) t) (hn:x≠"__name__":=by decide) (hdb:(x == ("__debug__":Str))=false:=by decide)
  (he:starEach (e::es) X.env=(false,eval e X.env)::starEach es X.env:=by rfl) (hpl:(backTo pos (starEach es X.env)).any (·.1)=false:=by rfl):PE X (.Call (.Name x p) (e::es) [] pos) (tCB r t):=by
 intro pins s σ H Q I h
 refine wpAny_Call_Name_kw (Zd6 I hg hm hv ?_ hn hdb)
 exact PyProof.Rows.callWith_type1 (thn (ha pos pins s σ H _ I h) fun us s1 ⟨vs,H1,I1,r1,q1⟩=>hc pins s1 σ H1 vs us Q I1 r1 q1) he hpl
end
end L2
namespace HT
open PySem PyProof.Rows
section
open PySem.SeqAt
open PySem.AutoSeq1 (wpAny_loadPart')
open PySem.MeetsSeq PySem.MeetsSeq2 PySem.MeetsSeq3
end
section
variable {prog:Program}{w:World}{A:Around}{E:Value→Shared→Prop}{s:Shared}
def sIx (n d:Nat):Option Int→Nat
 | none=>d
 | some v=>if v<0 then (v+(n:Int)).toNat else min v.toNat n
theorem sIx_none (n d:Nat):sIx n d none=d:=rfl
theorem sIx_nat (n d k:Nat):sIx n d (some (k:Int))=min k n:=by
 show (if (k:Int)<0 then ((k:Int)+(n:Int)).toNat else min (k:Int).toNat n)=min k n
 rw[if_neg (by omega),Int.toNat_natCast]
theorem sIx_le (n d:Nat)(hd:d≤n)(o:Option Int):sIx n d o≤n:=by
 cases o with
 | none=>exact hd
 | some v=>
  show (if v<0 then (v+(n:Int)).toNat else min v.toNat n)≤n
  by_cases hv:v<0
  ·rw[if_pos hv];omega
  ·rw[if_neg hv];exact Nat.min_le_right _ _
theorem clip_eq (v:Int)(n d:Nat):(if v<0 then max (v+(n:Int)) 0 else min v (n:Int))=((sIx n d (some v):Nat):Int):=by
 show (if v<0 then max (v+(n:Int)) 0 else min v (n:Int))=(((if v<0 then (v+(n:Int)).toNat else min v.toNat n):Nat):Int)
 by_cases hv:v<0
 ·simp only[if_pos hv];omega
 ·simp only[if_neg hv];omega
end
end HT
namespace L2
open PySem PySem.Spec PyProof.Rows
abbrev TO:=St→Hp→(Option Int→Hp→Prop)→Prop
def PO (X:Cx)(e:Option Expr)(t:TO):Prop:=
 ∀(pins:List (Addr×Obj)) (s:Shared) (σ:St) (H:Hp) (Q:Option Int→Hp→Prop),Inv X pins σ H s→t σ H Q →
  wpAny (model X.prog X.w) X.A (evalPart e X.env) (fun u s'=>∃o H',Inv X pins σ H' s'∧IsPart u o∧Q o H') X.xe s
def tNoPart:TO:=fun _ H Q=>Q none H
def Zg0 (t:TE):TO:=fun σ H Q=>t σ H fun x H1=>∃i,x=.int i∧Q (some i) H1
section
variable {X:Cx}{e:Expr}{te:TE}{lo hi:Option Expr}{tl th:TO}{pos p2:Pos}
theorem ZaB:PO X none tNoPart:=by
 intro pins s σ H Q I h
 rw[evalPart_none]
 exact wpAny_pure ⟨none,H,I,.none,h⟩
theorem Zat (h:PE X e te):PO X (some e) (Zg0 te):=by
 intro pins s σ H Q I hw
 rw[evalPart_some]
 refine thn (h pins s σ H _ I hw) fun u s1 ⟨x,H1,I1,r1,q1⟩=>?_
 obtain⟨i,rfl,q⟩:=q1
 obtain⟨t,rfl⟩:=r1
 exact⟨some i,H1,I1,.int i t,q⟩
def SlR (X:Cx)(r:V→Option Int→Option Int→Hp→VK→Prop):Prop:=
 ∀(pins:List (Addr×Obj)) (s:Shared) (σ:St) (H:Hp) (x:V) (v vl vu:Value) (lo hi:Option Int) (sl:Addr) (Q:VK),Inv X pins σ H s→RelV x v→s.heap.IsSliceOf sl vl vu .none→IsPart vl lo→IsPart vu hi→r x lo hi H Q →
  ∃T id,typeLookup (.type T) "__getitem__"=pure (some (.builtin id))∧s.TypeIs v T∧wpAny (model X.prog X.w) X.A (getItem v (.ref sl)) (EP X pins σ Q) X.xe s
def tSl (r:V→Option Int→Option Int→Hp→VK→Prop)(te:TE)(tl th:TO):TE:=fun σ H Q=>te σ H fun x H1=>tl σ H1 fun l H2=>th σ H2 fun u H3=>r x l u H3 Q
theorem Zaq {r:V→Option Int→Option Int→Hp→VK→Prop}(hr:SlR X r)(he:PE X e te)(hl:PO X lo tl)(hu:PO X hi th):PE X (.Subscript e (.Slice lo hi none p2) pos) (tSl r te tl th):=by
 intro pins s σ H Q I h
 refine Subscript_ (thn (he pins s σ H _ I h) fun v s1 ⟨x,H1,I1,r1,q1⟩=>?_)
 refine wpAny_Slice (thn (hl pins s1 σ H1 _ I1 q1) fun vl s2 ⟨l,H2,I2,pl,q2⟩=>thn (hu pins s2 σ H2 _ I2 q2) fun vu s3 ⟨u,H3,I3,pu,q3⟩=>?_)
 rw[evalPart_none]
 refine wpAny_pure ?_
 have I4:Inv X pins σ H3 { s3 with heap:=s3.heap.push { cls:=.type "slice",data:=.fields #[vl,vu,.none] } }:=I3.kept (t':=s3.toks) fun b ob q=>Heap.get?_push_of_some _ q
 obtain⟨T,id,hT,ht,hg⟩:=hr pins { s3 with heap:=s3.heap.push { cls:=.type "slice",data:=.fields #[vl,vu,.none] } } σ H3 x v vl vu l u s3.heap.objs.size Q I4 r1 (Heap.IsSliceOf.new ..) pl pu q3
 show wpAny (model X.prog X.w) X.A (subscriptTail e (.Slice lo hi none p2) v (.ref s3.heap.objs.size)) (EP X pins σ Q) X.xe { s3 with heap:=s3.heap.push { cls:=.type "slice",data:=.fields #[vl,vu,.none] } }
 exact tail_any (ops:=[.ref s3.heap.objs.size,v]) ht hT hg (by with_unfolding_all rfl)
end
end L2
namespace L2
open PySem PySem.Spec PyProof.Rows
def ixN (n:Nat)(i:Int):Option Nat:=if 0≤i then (if i<n then some i.toNat else none) else if -(n:Int)≤i then some (i+n).toNat else none
def atI {α:Type}(xs:List α)(i:Int):Option α:=(ixN xs.length i).bind fun j=>xs[j]?
theorem ZiG {n:Nat}{i:Int}{j:Nat}(h:ixN n i=some j):seqIndex? i n=some j∧j<n∧-(n:Int)≤i∧i<n:=by
 unfold ixN at h
 by_cases h0:0≤i
 ·rw[if_pos h0]at h
  by_cases h1:i<n
  ·rw[if_pos h1]at h
   have e:i.toNat=j:=Option.some.inj h
   exact⟨by rw[seqIndex_of h0 h1,e],by omega,by omega,h1⟩
  ·rw[if_neg h1]at h;cases h
 ·rw[if_neg h0]at h
  by_cases h1:-(n:Int)≤i
  ·rw[if_pos h1]at h
   have e:(i+n).toNat=j:=Option.some.inj h
   exact⟨by rw[seqIndex_neg (by omega) h1,e],by omega,h1,by omega⟩
  ·rw[if_neg h1]at h;cases h
theorem ZeQ {α:Type}{xs:List α}{i:Int}{v:α}(h:atI xs i=some v):∃j,seqIndex? i xs.length=some j∧xs[j]?=some v∧j<xs.length∧-(xs.length:Int)≤i∧i<xs.length:=by
 unfold atI at h
 cases e:ixN xs.length i with
 | none=>rw[e]at h;cases h
 | some j=>
  rw[e]at h
  obtain⟨h1,h2,h3,h4⟩:=ZiG e
  exact⟨j,h1,h,h2,h3,h4⟩
def Zi3 (b:Expr):Prop:=∀o i,subscripted b false o i=operate [o,i] (getItem o i)
def IxR (X:Cx)(r:R2):Prop:=
 ∀(value slice:Expr) (pins:List (Addr×Obj)) (s:Shared) (σ:St) (H:Hp) (x y:V) (v u:Value) (Q:VK),Inv X pins σ H s→RelV x v→RelV y u→r x y H Q →
  subscripted slice false v u=operate [v,u] (getItem v u)→wpAny (model X.prog X.w) X.A (subscriptTail value slice v u) (EP X pins σ Q) X.xe s
def MtR (X:Cx)(id:String)(r:V→List V→Hp→VK→Prop):Prop:=
 ∀(pins:List (Addr×Obj)) (s:Shared) (σ:St) (H:Hp) (x:V) (xs:List V) (v:Value) (us:List Value) (Q:VK),Inv X pins σ H s→RelV x v→Vals xs us→r x xs H Q →
  wpAny (model X.prog X.w) X.A (call (.builtin id) (v::us)) (EP X pins σ Q) X.xe s
section
variable {X:Cx}{a b:Expr}{ta tb:TE}{pos:Pos}
theorem Zcj {r:R2}(hr:IxR X r)(ha:PE X a ta)(hb:PE X b tb)(hs:Zi3 b):PE X (.Subscript a b pos) (tOp r ta tb):=by
 intro pins s σ H Q I h
 exact Subscript_ (binT ha hb I h fun v u s2 x y H2 I2 rx ry q=>hr a b pins s2 σ H2 x y v u Q I2 rx ry q (hs _ _))
def rIxL (K:PySem.W.Frag):R2:=fun x y H Q=>∃p xs i v,x=.ref p∧y=.int i∧SqL K H p xs∧atI xs i=some v∧Q v H
def rIxT (K:PySem.W.Frag):R2:=fun x y H Q=>∃p xs i v,x=.ref p∧y=.int i∧SqT K H p xs∧atI xs i=some v∧Q v H
def rIxS:R2:=fun x y H Q=>∃z i c,x=.str z∧y=.int i∧z.length≤sizeLine∧atI z.cps.toList i=some c∧Q (.str ⟨#[c]⟩) H
theorem ZiF:IxR X (rIxL X.K):=by
 intro value slice pins s σ H x y v u Q I rx ry h hs
 obtain⟨p,xs,i,z,rfl,rfl,hq,he,q⟩:=h
 cases rx
 obtain⟨t,rfl⟩:=ry
 obtain⟨its,r,pl,hz⟩:=I.list hq
 obtain⟨j,h1,h2,h3,h4,h5⟩:=ZeQ he
 obtain⟨w,ew,rw'⟩:=r.get h2
 have hl:=r.length
 have hn:=Zd5
 have fin:EP X pins σ Q w s:=⟨z,H,I,rw',q⟩
 by_cases h0:0≤i
 ·have hj:i.toNat=j:=by
   rw[seqIndex_of h0 h5]at h1
   exact Option.some.inj h1
  exact item_listR pl.isList h0 (by omega) (by rw[hj];simpa using ew) fin hs
 ·have hj:(i+(its.toArray.size:Int)).toNat=j:=by
   rw[seqIndex_neg (by omega) h4]at h1
   rw[List.size_toArray,←hl]
   exact Option.some.inj h1
  exact subscriptTail_builtinR (x:=w) pl.isList.typeIs slot_list_getitem.lookup
   (wpAny_getItem_list_neg (Q:=fun r s'=>r=w∧EP X pins σ Q r s') pl.isList (by omega) (by rw[List.size_toArray]<;>omega) (by omega) (by rw[hj];simpa using ew) ⟨rfl,fin⟩) hs
theorem Zj9:IxR X (rIxT X.K):=by
 intro value slice pins s σ H x y v u Q I rx ry h hs
 obtain⟨p,xs,i,z,rfl,rfl,hq,he,q⟩:=h
 cases rx
 obtain⟨t,rfl⟩:=ry
 obtain⟨its,r,pl,hz⟩:=I.tuple hq
 obtain⟨j,h1,h2,h3,h4,h5⟩:=ZeQ he
 obtain⟨w,ew,rw'⟩:=r.get h2
 have hl:=r.length
 have hn:=Zd5
 have fin:EP X pins σ Q w s:=⟨z,H,I,rw',q⟩
 exact subscriptTail_builtinR (x:=w) pl.typeIs slot_tuple_getitem.lookup
  (getItem_tuple (j:=j) (Q:=fun r s'=>r=w∧EP X pins σ Q r s') pl (by omega) (by omega) (by rw[List.size_toArray,←hl];exact h1) (by simpa using ew) ⟨rfl,fin⟩) hs
theorem Zka:IxR X rIxS:=by
 intro value slice pins s σ H x y v u Q I rx ry h hs
 obtain⟨z,i,c,rfl,rfl,hz,he,q⟩:=h
 obtain⟨t,rfl⟩:=rx
 obtain⟨t',rfl⟩:=ry
 obtain⟨j,h1,h2,h3,h4,h5⟩:=ZeQ he
 have hl:z.cps.toList.length=z.length:=by simp[Str.length]
 rw[hl]at h1 h4 h5
 have hn:=Zd5
 exact tail_any (typeIs_str s z t) slot_str_getitem.lookup (getItem_str (c:=c) (by
  have e1:decide (i < -(2 ^ 63:Int))=false:=decide_eq_false (by omega)
  have e2:decide (i≥2 ^ 63)=false:=decide_eq_false (by omega)
  rw[e1,e2,Bool.or_false]) (by rw[h1];simpa using h2) ⟨.str ⟨#[c]⟩,H,I.tok _,⟨_,rfl⟩,q⟩) hs
def Za7:V→Bool
 | .non=>true
 | .bl _=>true
 | .int _=>true
 | .str _=>true
 | _=>false
def eqV:V→V→Bool
 | .non,.non=>true
 | .bl a,.bl b=>a == b
 | .bl a,.int b=>(if a then 1 else 0) == b
 | .int a,.bl b=>a == (if b then 1 else 0)
 | .int a,.int b=>a == b
 | .str a,.str b=>a == b
 | _,_=>false
theorem Zh3 {A:Around}{s:Shared}{y x:V}{u v:Value}(ry:RelV y u)(rx:RelV x v)(fy:Za7 y=true)(fx:Za7 x=true):SeqAt.EqAt A s u v (eqV y x):=by
 cases y with
 | non=>
  cases ry
  cases x with
  | non=>cases rx;exact SeqAt.EqAt.same _
  | bl b=>cases rx;exact SeqAt.EqAt.none_bool b
  | int b=>obtain⟨t,rfl⟩:=rx;exact SeqAt.EqAt.none_int b t
  | str b=>obtain⟨t,rfl⟩:=rx;exact SeqAt.EqAt.none_str b t
  | _=>exact absurd (show false=true from fx) Bool.false_ne_true
 | bl a=>
  cases ry
  cases x with
  | non=>cases rx;exact SeqAt.EqAt.bool_none a
  | bl b=>cases rx;exact SeqAt.EqAt.bool_bool a b
  | int b=>obtain⟨t,rfl⟩:=rx;exact SeqAt.EqAt.bool_int a b t
  | str b=>obtain⟨t,rfl⟩:=rx;exact SeqAt.EqAt.bool_str a b t
  | _=>exact absurd (show false=true from fx) Bool.false_ne_true
 | int a=>
  obtain⟨t',rfl⟩:=ry
  cases x with
  | non=>cases rx;exact SeqAt.EqAt.int_none a t'
  | bl b=>cases rx;exact SeqAt.EqAt.int_bool a t' b
  | int b=>obtain⟨t,rfl⟩:=rx;exact SeqAt.EqAt.int_int a t' b t
  | str b=>obtain⟨t,rfl⟩:=rx;exact SeqAt.EqAt.int_str a t' b t
  | _=>exact absurd (show false=true from fx) Bool.false_ne_true
 | str a=>
  obtain⟨t',rfl⟩:=ry
  cases x with
  | non=>cases rx;exact SeqAt.EqAt.str_none a t'
  | bl b=>cases rx;exact SeqAt.EqAt.str_bool a t' b
  | int b=>obtain⟨t,rfl⟩:=rx;exact SeqAt.EqAt.str_int a t' b t
  | str b=>obtain⟨t,rfl⟩:=rx;exact SeqAt.EqAt.str_str a t' b t
  | _=>exact absurd (show false=true from fx) Bool.false_ne_true
 | _=>exact absurd (show false=true from fy) Bool.false_ne_true
def eqU (x:V)(u:Value):Bool:=match u with
 | .none=>eqV .non x
 | .bool b=>eqV (.bl b) x
 | .int i _=>eqV (.int i) x
 | .str z _=>eqV (.str z) x
 | _=>false
theorem Zh2 {x y:V}{u:Value}(r:RelV y u)(f:Za7 y=true):eqU x u=eqV y x:=by
 cases y with
 | non=>cases r;rfl
 | bl b=>cases r;rfl
 | int i=>obtain⟨t,rfl⟩:=r;rfl
 | str z=>obtain⟨t,rfl⟩:=r;rfl
 | _=>exact absurd (show false=true from f) Bool.false_ne_true
theorem ZcV {x:V}:∀ {xs:List V} {us:List Value},Vals xs us→xs.all Za7=true→us.any (eqU x)=xs.any fun y=>eqV y x
 | _,_,.nil,_=>rfl
 | y::xs,u::us,.cons r t,f=>by
  rw[List.all_cons,Bool.and_eq_true]at f
  rw[List.any_cons,List.any_cons,Zh2 r f.1,ZcV t f.2]
theorem ZbY {A:Around}{s:Shared}{x:V}{v:Value}(rx:RelV x v)(fx:Za7 x=true):∀ {xs:List V} {us:List Value},Vals xs us→xs.all Za7=true→∀u∈us,SeqAt.EqAt A s u v (eqU x u)
 | _,_,.nil,_=>fun u hu=>by cases hu
 | y::xs,u::us,.cons r t,f=>fun u' hu=>by
  rw[List.all_cons,Bool.and_eq_true]at f
  rcases List.mem_cons.mp hu with rfl | hu
  ·rw[Zh2 r f.1];exact Zh3 r rx f.1 fx
  ·exact ZbY rx fx t f.2 u' hu
def inV (x:V)(xs:List V):Bool:=xs.any fun y=>eqV y x
def rIn (K:PySem.W.Frag)(neg:Bool):R2:=fun x y H Q=>∃p xs,y=.ref p∧(SqL K H p xs∨SqT K H p xs)∧Za7 x=true∧xs.all Za7=true∧Q (.bl (if neg then !inV x xs else inV x xs)) H
theorem Zgj:OpR X (compareOp .In) (rIn X.K false):=by
 intro pins s σ H x y v u Q I rx ry h
 obtain⟨p,xs,rfl,hq,fx,fs,q⟩:=h
 cases ry
 rcases hq with hq | hq
 ·obtain⟨its,r,pl,hz⟩:=I.list hq
  refine SeqAt.in_listAt (eqU x) pl.isList (fun w hw=>ZbY rx fx r fs w (by simpa using hw)) ⟨.bl _,H,I,rfl,?_⟩
  rw[show its.toArray.any (eqU x)=its.any (eqU x) by simp,ZcV r fs]
  exact q
 ·obtain⟨its,r,pl,hz⟩:=I.tuple hq
  refine SeqAt.in_tupleAt (eqU x) pl (fun w hw=>ZbY rx fx r fs w (by simpa using hw)) ⟨.bl _,H,I,rfl,?_⟩
  rw[show its.toArray.any (eqU x)=its.any (eqU x) by simp,ZcV r fs]
  exact q
theorem Zd0:OpR X (compareOp .NotIn) (rIn X.K true):=by
 intro pins s σ H x y v u Q I rx ry h
 obtain⟨p,xs,rfl,hq,fx,fs,q⟩:=h
 cases ry
 rcases hq with hq | hq
 ·obtain⟨its,r,pl,hz⟩:=I.list hq
  refine SeqAt.notIn_listAt (eqU x) pl.isList (fun w hw=>ZbY rx fx r fs w (by simpa using hw)) ⟨.bl _,H,I,rfl,?_⟩
  rw[show its.toArray.any (eqU x)=its.any (eqU x) by simp,ZcV r fs]
  exact q
 ·obtain⟨its,r,pl,hz⟩:=I.tuple hq
  refine SeqAt.notIn_tupleAt (eqU x) pl (fun w hw=>ZbY rx fx r fs w (by simpa using hw)) ⟨.bl _,H,I,rfl,?_⟩
  rw[show its.toArray.any (eqU x)=its.any (eqU x) by simp,ZcV r fs]
  exact q
def tyV (K:PySem.W.Frag)(T:String)(x:V)(H:Hp):Prop:=match x with
 | .str _=>T="str"
 | .int _=>T="int"
 | .ref p=>(T="list"∧∃xs,SqL K H p xs)∨(T="tuple"∧∃o,K.lookup p=some o∧o.cls=.type "tuple"∧o.dict=none) ∨
   (T="dict"∧((∃kvs,H p=some (.dK kvs))∨∃kvs,H p=some (.dT kvs)))∨(T="set"∧∃S n,H p=some (.set S n))
 | _=>False
theorem Zi9 {pins:List (Addr×Obj)}{σ:St}{H:Hp}{s:Shared}{T:String}{x:V}{v:Value}(I:Inv X pins σ H s)(r:RelV x v)(ty:tyV X.K T x H):
  s.TypeIs v T∧∀a,v=.ref a→∃ob,s.heap.get? a=some ob∧ob.dict=none:=by
 cases x with
 | str z=>
  obtain⟨t,rfl⟩:=r
  cases (show T="str" from ty)
  exact⟨typeIs_str s z t,fun _ e=>nomatch e⟩
 | int i=>
  obtain⟨t,rfl⟩:=r
  cases (show T="int" from ty)
  exact⟨typeIs_int s i t,fun _ e=>nomatch e⟩
 | ref p=>
  cases r
  rcases ty with⟨rfl,xs,hq⟩|⟨rfl,o,hk,hc,hd⟩|⟨rfl,hk⟩|⟨rfl,S,n,hk⟩
  ·obtain⟨its,_,pl,_⟩:=I.list hq
   refine⟨pl.isList.typeIs,fun a e=>?_⟩
   cases e
   obtain⟨o,n,e,c,hd,_⟩:=pl
   exact⟨o,e,hd⟩
  ·refine⟨⟨o,I.kIn p o hk,hc⟩,fun a e=>?_⟩
   cases e
   exact⟨o,I.kIn _ o hk,hd⟩
  ·have z:∃o,s.heap.get? p=some o∧o.ExactDict:=by
    rcases hk with⟨kvs,hk⟩|⟨kvs,hk⟩
    ·obtain⟨_,_,_,_,o,_,_,e,ex,_⟩:=I.hok p _ hk
     exact⟨o,e,ex⟩
    ·obtain⟨_,_,_,_,o,_,_,e,ex,_⟩:=I.hok p _ hk
     exact⟨o,e,ex⟩
   obtain⟨o,e,ex⟩:=z
   refine⟨⟨o,e,ex.1⟩,fun a e2=>?_⟩
   cases e2
   exact⟨o,e,ex.2.1⟩
  ·obtain⟨o,_,_,_,e,ex,_⟩:=I.hok p _ hk
   refine⟨⟨o,e,ex.1⟩,fun a e2=>?_⟩
   cases e2
   exact⟨o,e,ex.2.1⟩
 | _=>exact False.elim ty
def tBM0 (K:PySem.W.Frag)(T:String)(r:V→List V→Hp→VK→Prop)(to:TE):TE:=fun σ H Q=>to σ H fun x H1=>tyV K T x H1∧r x [] H1 Q
def tBM (K:PySem.W.Frag)(T:String)(r:V→List V→Hp→VK→Prop)(to:TE)(t:TA):TE:=fun σ H Q=>to σ H fun x H1=>tyV K T x H1∧t σ H1 fun xs H2=>r x xs H2 Q
variable {o e:Expr}{es:List Expr}{to:TE}{t:TA}{name:Str}{apos cpos:Pos}{T id:String}{r:V→List V→Hp→VK→Prop}
theorem Zhj (pa:PlainAttrs T) (slot:Slot T name id) (hty:typeOf (.builtin id)=pure (.type "method_descriptor")) (hm:MtR X id r) (ho:PE X o to) (ha:PA X (e::es) t)
  (hbase:attributeBase o name X.env (eval o X.env)=eval o X.env:=by rfl)
  (hfew:((backTo cpos (starEach (e::es) X.env)).all (fun x=>!x.1)&&(backToKw cpos (keywordEach [] X.env)).all (fun x=>x.1.isSome)
   && decide ((e::es).length+([]:List Keyword).length+(if ([]:List Keyword).isEmpty then 0 else 1)<30))=true:=by rfl)
  (hline:(apos.endLine == cpos.line)=true:=by rfl) (hs:starEach (e::es) X.env=(false,eval e X.env)::starEach es X.env:=by rfl) (hplain:(backTo cpos (starEach es X.env)).any (·.1)=false:=by rfl):
  PE X (.Call (.Attribute o name apos) (e::es) [] cpos) (tBM X.K T r to t):=by
 intro pins s σ H Q I h
 refine wpAny_Call_method_late hbase hfew hline rfl (thn (ho pins s σ H _ I h) fun v s1 ⟨x,H1,I1,r1,ty,q1⟩=>?_)
 obtain⟨h1,h2⟩:=Zi9 I1 r1 ty
 refine⟨T,id,pa,slot,hty,h1,h2,?_⟩
 have hA:=ha cpos pins s1 σ H1 _ I1 q1
 rw[hs]at hA ⊢
 refine Calls.callWith_builtin (by show (false || (backTo cpos (starEach es X.env)).any (·.1))=false;rw[hplain]<;>rfl) (Calls.evalArgs_plain ?_)
 exact thn hA fun us s2 ⟨vs,H2,I2,r2,q2⟩=>hm pins s2 σ H2 x vs v us Q I2 r1 r2 q2
end
def MtM (X:Cx)(id:String)(r:V→List V→Hp→VK→Prop):Prop:=
 ∀(pins:List (Addr×Obj)) (s:Shared) (σ:St) (H:Hp) (x:V) (xs:List V) (v:Value) (us:List Value) (Q:VK),Inv X pins σ H s→RelV x v→Vals xs us→r x xs H Q →
  wpAny (model X.prog X.w) X.A (call (.builtin id) (v::us)) (EP X pins σ Q) X.xe s
theorem Vals.one:∀ {x:V} {us:List Value},Vals [x] us→∃u,us=[u]∧RelV x u
 | _,_,.cons r .nil=>⟨_,rfl,r⟩
theorem Vals.two:∀ {x y:V} {us:List Value},Vals [x,y] us→∃u v,us=[u,v]∧RelV x u∧RelV y v
 | _,_,_,.cons r (.cons q .nil)=>⟨_,_,rfl,r,q⟩
section
variable {X:Cx}{pins:List (Addr×Obj)}{σ:St}{H:Hp}{s:Shared}{l b:Addr}{xs ys zs:List V}
theorem Inv.lset {its its':List Value}{n:Nat}{f:Array Value→Array Value}{t':Nat}(I:Inv X pins σ H s)(hH:H l=some (.lst xs))
  (e:s.heap.get? l=some { cls:=.type "list",data:=.seq its.toArray n }) (hf:f its.toArray=its'.toArray) (hv:Vals ys its') (hz:ys.length≤sizeLine):
  Inv X pins σ (upd H l (.lst ys)) { s with heap:=s.heap.update l (Obj.mapSeq f),toks:=t' }:=by
 have q:=PySem.IsL.update e f
 rw[hf]at q
 refine I.write (x:=l) (e:=l) (by rw[hH];exact trivial) (.inl rfl) (fun b' u hb hu=>(Heap.get?_update_other s.heap (Obj.mapSeq f) (Ne.symm hb)).trans hu) ⟨_,q⟩ ?_
 exact⟨hz,its',_,hv,q⟩
theorem Inv.lnew {its:List Value}{t':Nat}(I:Inv X pins σ H s)(hv:Vals ys its)(hz:ys.length≤sizeLine):
  Inv X pins σ (upd H s.heap.objs.size (.lst ys)) { s with heap:=s.heap.push { cls:=.type "list",data:=.seq its.toArray },toks:=t' }:=
 I.laid (fun _ _ q=>Heap.get?_push_of_some _ q) (Nat.le_refl _) ⟨hz,its,0,hv,Heap.get?_push_size _ rfl⟩
theorem Inv.fresh (I:Inv X pins σ H s):H s.heap.objs.size=none:=I.hok.fresh (Nat.le_refl _)
theorem Inv.lstM (I:Inv X pins σ H s)(hH:H l=some (.lst xs)):xs.length≤sizeLine∧∃(its:List Value) (n:Nat),Vals xs its∧xs.length=its.length∧s.heap.get? l=some { cls:=.type "list",data:=.seq its.toArray n }:=by
 obtain⟨z,its,n,r,e⟩:=I.hok l _ hH
 exact⟨z,its,n,r,r.length,e⟩
theorem Zhn {n:Nat}(h:n≤sizeLine):Builtin.List.listTooLong n=false:=by
 unfold Builtin.List.listTooLong
 exact decide_eq_false (by omega)
end
section
variable {X:Cx}
def rAppend:V→List V→Hp→VK→Prop:=fun x vs H Q=>∃l xs y,x=.ref l∧vs=[y]∧H l=some (.lst xs)∧xs.length<sizeLine∧Q .non (upd H l (.lst (xs++[y])))
theorem Zd3:MtM X "list.append" rAppend:=by
 intro pins s σ H x vs v us Q I rx rv h
 obtain⟨l,xs,y,rfl,rfl,hH,hz,q⟩:=h
 cases rx
 obtain⟨u,rfl,ru⟩:=rv.one
 obtain⟨z,its,n,r,hl,e⟩:=I.lstM hH
 refine call_meets F.slot_list_append ⟨_,e,rfl⟩ F.entry_list_append (F.args_list_append_2 _ _) (PySem.list_append l its.toArray n u (by rw[List.size_toArray];omega)) ⟨e,?_⟩
 refine⟨.non,_,I.lset (its':=its++[u]) hH e (by simp) (r.append (.cons ru .nil)) ?_,rfl,q⟩
 rw[List.length_append,List.length_singleton]
 omega
def rExtend:V→List V→Hp→VK→Prop:=fun x vs H Q=>∃l b xs zs,x=.ref l∧vs=[.ref b]∧H l=some (.lst xs)∧H b=some (.lst zs)∧xs.length+zs.length≤sizeLine∧Q .non (upd H l (.lst (xs++zs)))
theorem Zgo:MtM X "list.extend" rExtend:=by
 intro pins s σ H x vs v us Q I rx rv h
 obtain⟨l,b,xs,zs,rfl,rfl,hH,hB,hz,q⟩:=h
 cases rx
 obtain⟨u,rfl,ru⟩:=rv.one
 cases ru
 obtain⟨z,its,n,r,hl,e⟩:=I.lstM hH
 obtain⟨z2,its2,n2,r2,hl2,e2⟩:=I.lstM hB
 have hsz:its.toArray.size+its2.toArray.size≤sizeLine:=by rw[List.size_toArray,List.size_toArray];omega
 have hlong:¬(!its.toArray.isEmpty&&Builtin.List.listTooLong (its.toArray.size+its2.toArray.size))=true:=by
  rw[Zhn hsz,Bool.and_false]
  exact Bool.false_ne_true
 refine call_meets F.slot_list_extend ⟨_,e,rfl⟩ F.entry_list_extend (F.args_list_extend_2 _ _)
  (AutoSeq1.list_extend_list_list_0 l its.toArray n b its2.toArray n2 hlong (by rw[List.size_toArray];omega) (by omega)) ⟨e,e2,?_⟩
 refine⟨.non,_,I.lset (its':=its++its2) hH e (by simp) (r.append r2) ?_,rfl,q⟩
 rw[List.length_append]
 omega
def rCat:R2:=fun x y H Q=>∃l b xs zs,x=.ref l∧y=.ref b∧H l=some (.lst xs)∧H b=some (.lst zs)∧xs.length+zs.length≤sizeLine∧∀p,H p=none→Q (.ref p) (upd H p (.lst (xs++zs)))
theorem ZjP:OpR X (binaryOp .Add) rCat:=by
 intro pins s σ H x y v u Q I rx ry h
 obtain⟨l,b,xs,zs,rfl,rfl,hH,hB,hz,q⟩:=h
 cases rx
 cases ry
 obtain⟨z,its,n,r,hl,e⟩:=I.lstM hH
 obtain⟨z2,its2,n2,r2,hl2,e2⟩:=I.lstM hB
 refine PySem.P.add_list e e2 ?_ (by rw[List.size_toArray,List.size_toArray];omega)
 have ea:its.toArray++its2.toArray=(its++its2).toArray:=by simp
 rw[ea]
 exact⟨.ref _,_,I.lnew (t':=s.toks) (r.append r2) (by rw[List.length_append];omega),rfl,q _ I.fresh⟩
end
section
variable {prog:Program}{w:World}{A:Around}{E:Value→Shared→Prop}{s:Shared}
end
section
variable {X:Cx}
end
end L2
namespace Att
open PySem PySem.W PySem.Calls PyProof.Rows
theorem ZcO {P:Params}{h:Heap}:∀(ns:List Int) (vs:List Value),WellAll P h vs (ns.map WData.int)→IntsAre vs ns:=by
 intro ns
 induction ns with
 | nil=>
  intro vs w
  rw[List.map_nil]at w
  cases w
  exact .nil
 | cons n ns ih=>
  intro vs w
  rw[List.map_cons]at w
  cases w with
  | cons a b=>
   cases a
   exact .cons _ _ (ih _ b)
theorem Zf7 {l:OpenLaw}{n:Nat}(hn:l.most=some n){P:Params}{h:Heap}{args:List WData}{vals:List Value}
  (hpre:l.row.toRowW.claim.pre args=true) (hwl:WellAll P h vals args):
  ∃a vs ns,vals=[Value.ref a]∧args=[WData.list (ns.map WData.int)]∧h.get? a=some { cls:=.type "list",data:=.seq vs.toArray }∧IntsAre vs ns∧ns.length≤n:=by
 have hsh:WShape.hasAll [] args [.list .int]=true:=(pre_splitW hpre).1
 have hc:l.pre.holds [] { args:=args }=true:=(pre_splitW hpre).2
 obtain⟨d,r,rfl,h1,h2⟩:=hasAllW_cons hsh
 obtain rfl:=hasAllW_nil h2
 obtain⟨xs,rfl,h3⟩:=hasW_list h1
 obtain⟨ns,rfl⟩:=items_int h3
 have hlen:ns.length≤n:=by
  unfold OpenLaw.pre at hc
  have h4:(WTm.not (.lt (.lit (.int (n:Int))) (.len (.arg 0)))).holds [] { args:=[.list (ns.map .int)] }=true:=by
   have h4:=(holds_andW hc).1
   rw[hn]at h4
   exact h4
  have h5:=condW_of h4 (w_not (w_lt w_lit (w_len_list (w_arg rfl))))
  rw[List.length_map]at h5
  refine Nat.le_of_not_lt fun q=>?_
  have q':(n:Int)<((ns.length:Nat):Int):=by omega
  first
   | (rw[decide_eq_true q']at h5;exact absurd h5 (by decide))
   | (simp at h5;omega)
 cases hwl with
 | cons w1 w2=>
  cases w2
  cases w1 with
  | list ho hall=>exact⟨_,_,ns,rfl,rfl,ho,ZcO ns _ hall,hlen⟩
theorem Zgf (l:OpenLaw)(args:List WData):l.row.toRowW.claim.post args (.bool true) args=true:=
 postW_of (r:=l.row.toRowW) (X:=(true == true))
  (show WShape.has [] (.bool true) .bool=true by first | rfl | decide | simp[WShape.has,WShape.arms,WShape.armsAll])
  (show (WTm.eq .res (.lit (.bool true))).value [] { args:=args,res:=some (.bool true),after:=args }=some (.bool (true == true)) from w_eq_bool (w_res rfl) w_lit) rfl
theorem attach_call {l:OpenLaw}{n:Nat}{q:Program}{loose:List Str}{XP:(Str→Option Value)→Heap→Prop}{YP:World→Heap→Prop}{d:DefRec}
  (hn:l.most=some n) (hdf:d.params.defaults=[])
  (call:∀(w:World) (s₀ s₁:Shared) (mg mb:Str→Option Value) (fa:Addr) (o:Obj) (pm cd doc:Value) (a:Addr) (vs:List Value) (ns:List Int),
   Ground q loose [] XP w s₀ mg mb s₁.heap→YP w s₁.heap →
   s₁.heap.get? fa=some o→o.data=.func (docDef d.name d.params d.body d.scope pm cd doc)→s₁.heap.CodeRec cd d.name→mg d.name=some (.ref fa) →
   s₁.heap.get? a=some { cls:=.type "list",data:=.seq vs.toArray }→IntsAre vs ns→ns.length≤n→s₁.gens=#[] →
   codeAny (model l.prog w) callerA (.call (.ref fa) ⟨[.ref a],[]⟩) (fun r s'=>r=.ok (.ret (.bool true))∧OldK s₁.heap s'.heap∧s'.os=s₁.os∧AllBare s'.gens) s₁):
  WalkO q loose XP YP l.row.toRowW d [] (fun f vs=>PySem.call f vs):=by
 intro w s₀ s₁ mg mb G Y fa o pm cd doc dV kV ho hd hcd hD hmg hg args vals as hpre hlay hrd hwl hlo
 obtain rfl:dV=.none:=Dflts.none hD hdf
 obtain rfl:kV=.none:=Dflts.noKw hD
 obtain⟨a,vs,ns,rfl,rfl,hobj,hints,hlen⟩:=Zf7 hn hpre hwl
 refine enter_call (codeAny_mono (call w s₀ s₁ mg mb fa o pm cd doc a vs ns G Y ho (fd_plain hd) hcd hmg hobj hints hlen hg) fun r s' hq=>?_)
 obtain⟨rfl,h2,h3,h4⟩:=hq
 exact⟨.inl ⟨.bool true,.bool true,[],rfl,fun _=>rfl,.bool true,Zgf l _,fun _=>⟨List.Pairwise.nil,fun _ hm=>(nomatch hm)⟩⟩,h2,h3,h4⟩
section
variable {prog:Program}{w:World}{A:Around}{E:Value→Shared→Prop}{s:Shared}{K:Frag}
def ledger (h:Heap)(L d:Addr):List (Addr×Obj):=(List.range h.objs.size).filterMap fun a=>if a=L∨a=d then none else (h.get? a).map fun o=>(a,o)
end
end Att
namespace L2
open PySem PySem.Spec PyProof.Rows
theorem ZdK:∀ {vs:List Value} {ns:List Int},IntsAre vs ns→Vals (ns.map V.int) vs
 | _,_,.nil=>.nil
 | _,_,.cons n t h=>.cons ⟨t,rfl⟩ (ZdK h)
def Only (H:Hp):Prop:=∀b,H b=none∨∃o xs,H b=some (.frz o (.lst xs))
theorem Zhs {P:Program}{w:World}{K:PySem.W.Frag}{mg mb:Str→Option Value}{CX:CXT}{k:Nat}{fa a:Addr}{fd:FuncData}{x:Str}{sp:Sp}{s₁:Shared}{vs:List Value}{ns:List Int}
  (KX:K.In s₁.heap) (hns:s₁.heap.Ns mainGlobals mg) (hb:s₁.heap.Ns builtinsNs mb) (hbb:∀x:Str,x≠"__name__"→mb x=bootBuiltins x) (hlim:s₁.heap.NoLimit) (hg:s₁.gens=#[])
  (ha:s₁.heap.get? a=some { cls:=.type "list",data:=.seq vs.toArray }) (hi:IntsAre vs ns) (hl:ns.length≤sizeLine) (hr:Room k callerA)
  (F:∀base:Heap,K.In base→base.Ns mainGlobals mg→FnOk P w K mg base CX k fa fd [x] sp) (hbind:∀(s:Shared) (u:Value),BindsTo s fd ⟨[u],[]⟩ [(x,u)])
  (hsp:∀H:Hp,Only H→SqL K H a (ns.map V.int)→sp [.ref a] H (fun v _=>v=.bl true) fun _ _ _=>False)
  (hCX:∀H e s',CX [] H s₁ (fun _ _ _=>False) e s'→False):
  codeAny (model P w) callerA (.call (.ref fa) ⟨[.ref a],[]⟩) (fun r s'=>r=.ok (.ret (.bool true))∧OldK s₁.heap s'.heap∧s'.os=s₁.os∧AllBare s'.gens) s₁:=by
 have rv:=ZdK hi
 have lenV:=hi.length
 have core:∀H:Hp,Only H→SqL K H a (ns.map V.int)→HOk P w H s₁.heap→(∀b,H b≠none→b=a)→(H a≠none→K.lookup a=none) →
   codeAny (model P w) callerA (.call (.ref fa) ⟨[.ref a],[]⟩) (fun r s'=>r=.ok (.ret (.bool true))∧OldK s₁.heap s'.heap∧s'.os=s₁.os∧AllBare s'.gens) s₁:=by
  intro H hO hS hok hA hK
  have base_of:∀ {b:Addr} {o:Obj},s₁.heap.get? b=some o→H b=none→(hidT s₁.heap H).get? b=some o:=fun e n=>Zhy e n
  have noA:∀ {b:Addr} {o:Obj} {es:Array DictEntry} {ep:Nat},s₁.heap.get? b=some o→o.data=.dict es ep→H b=none:=fun {b o es ep} e d=>by
   cases q:H b with
   | none=>rfl
   | some u=>
    have e':b=a:=hA b (by rw[q];simp)
    subst e'
    rw[ha]at e;cases e
    have d':Data.seq vs.toArray _=Data.dict es ep:=d
    cases d'
  have nsK:∀ {b:Addr} {m:Str→Option Value},s₁.heap.Ns b m→(hidT s₁.heap H).Ns b m:=fun {b m} ⟨o,es,ep,e,d,r⟩=>⟨o,es,ep,base_of e (noA e d),d,r⟩
  have hKb:K.In (hidT s₁.heap H):=fun b o e=>base_of (KX b o e) (by
   cases q:H b with
   | none=>rfl
   | some u=>
    have e':b=a:=hA b (by rw[q];simp)
    subst e'
    rw[hK (by rw[q];simp)]at e;cases e)
  have hM:Mod K mg (hidT s₁.heap H):=⟨hKb,nsK hns,⟨mb,nsK hb,hbb⟩,let ⟨mc,h1,h2⟩:=hlim;⟨mc,nsK h1,h2⟩⟩
  have e0:Env0 P w K mg (hidT s₁.heap H) callerA [] s₁ H:=⟨rfl,hM,fun b o e=>Ziv e,Nat.le_of_eq (ZgD _ _),trivial,fun b hb=>absurd (show b∈([]:List Addr) from hb) (by simp),hok,.of_eq hg⟩
  refine codeAny_mono ((F _ hKb (nsK hns)).run callerA [] s₁ H ⟨[.ref a],[]⟩ [.ref a] [.ref a] _ _ hr e0 (hbind s₁ (.ref a)) (.cons rfl .nil) (hsp H hO hS)) fun r s' h=>?_
  cases r with
  | error e=>exact(hCX H e s' h).elim
  | ok fl=>
   cases fl with
   | next=>exact False.elim h
   | brk=>exact False.elim h
   | cont=>exact False.elim h
   | ret u=>
    obtain⟨v,H',os,bare,un,hok',r',q⟩:=h
    have q':v=.bl true:=q
    subst q'
    obtain rfl:u=Value.bool true:=r'
    refine⟨rfl,OldK.of_keep fun b o e=>?_,os,bare⟩
    cases q:H b with
    | none=>exact un.keep b o e q (by intro z;exact absurd (show b∈([]:List Addr) from z) (by simp)) (by simp)
    | some u=>
     rcases hO b with z | ⟨ob,xs,z⟩
     ·rw[q]at z;cases z
     ·have z2:=un.frzs b ob _ z
      obtain⟨e1,_⟩:=hok b _ z
      obtain⟨e2,_⟩:=hok' b _ z2
      rw[e]at e1;cases e1
      exact e2
 cases hk:K.lookup a with
 | some o=>
  have e:=KX a o hk
  rw[ha]at e
  cases e
  refine core (fun _=>none) (fun _=>.inl rfl) (.inr ⟨_,vs.toArray,_,hk,rfl,rfl,rfl,by rw[List.size_toArray,lenV];exact hl,by simpa using rv⟩) (fun b u z=>by have z':(none:Option HO)=some u:=z;cases z') (fun b z=>absurd rfl z) fun z=>absurd rfl z
 | none=>
  refine core (fun b=>if b=a then some (.frz { cls:=.type "list",data:=.seq vs.toArray } (.lst (ns.map V.int))) else none) (fun b=>?_) (.inl (.inr ⟨{ cls:=.type "list",data:=.seq vs.toArray },if_pos rfl⟩)) (fun b u z=>?_) (fun b z=>?_) fun _=>hk
  ·by_cases hb:b=a
   ·exact .inr ⟨_,_,if_pos hb⟩
   ·exact .inl (if_neg hb)
  ·by_cases hb:b=a
   ·have z':=(if_pos hb).symm.trans z
    cases z'
    subst hb
    exact⟨ha,by rw[List.length_map];exact hl,vs,_,rv,ha⟩
   ·have z':=(if_neg hb).symm.trans z
    cases z'
  ·by_cases hb:b=a
   ·exact hb
   ·exact absurd (if_neg hb) z
end L2
namespace L2
open PySem PySem.Spec PyProof.Rows
abbrev KOf {K:PySem.W.Frag}{h:Heap}(_:K.In h):PySem.W.Frag:=K
theorem Zh9 {l:PySem.W.OpenLaw}{n k:Nat}{q:Program}{loose:List Str}{XP:(Str→Option Value)→Heap→Prop}{YP:World→Heap→Prop}{d:DefRec}{K:Params→PySem.W.Frag}{CX:World→CXT}{sp:World→Sp}{x:Str}
  (hn:l.most=some n) (hn2:n≤sizeLine) (hdf:d.params.defaults=[]) (hr:Room k callerA)
  (hY:∀(w:World) (h:Heap),YP w h→(K w.params).In h)
  (F:∀(w:World) (mg:Str→Option Value) (fa:Addr) (h:Heap),(K w.params).In h→h.Ns mainGlobals mg→mg d.name=some (.ref fa) →
   ∃fd:FuncData,(∀(s:Shared) (u:Value),BindsTo s fd ⟨[u],[]⟩ [(x,u)]) ∧
    ∀base:Heap,(K w.params).In base→base.Ns mainGlobals mg→FnOk l.prog w (K w.params) mg base (CX w) k fa fd [x] (sp w))
  (hsp:∀(w:World) (H:Hp) (a:Addr) (ns:List Int),ns.length≤n→Only H→SqL (K w.params) H a (ns.map V.int)→sp w [.ref a] H (fun v _=>v=.bl true) fun _ _ _=>False)
  (hCX:∀(w:World) (H:Hp) (s:Shared) (e:Value) (s':Shared),CX w [] H s (fun _ _ _=>False) e s'→False):
  PySem.W.WalkO q loose XP YP l.row.toRowW d [] (fun f vs=>PySem.call f vs):=by
 refine Att.attach_call hn hdf fun w s₀ s₁ mg mb fa o pm cd doc a vs ns G Y ho hd hcd hmg hobj hints hlen hg=>?_
 have KX:=hY w _ Y
 obtain⟨fd,hb,hF⟩:=F w mg fa _ KX G.T.g hmg
 exact Zhs KX G.T.g G.T.b G.T.builtins G.T.nolimit hg hobj hints (Nat.le_trans hlen hn2) hr hF hb (fun H hO hS=>hsp w H a ns hlen hO hS) fun H e s'=>hCX w H s₁ e s'
theorem walk_ofK {l:PySem.W.OpenLaw}{n k:Nat}{q:Program}{loose:List Str}{XP:(Str→Option Value)→Heap→Prop}{YP:World→Heap→Prop}{d:DefRec}{K:Params→PySem.W.Frag}{CX:CXT}{sp:PySem.W.Frag→Sp}{x:Str}
  (hn:l.most=some n) (hn2:n≤sizeLine) (hdf:d.params.defaults=[]) (hr:Room k callerA)
  (hY:∀(w:World) (h:Heap),YP w h→(K w.params).In h)
  (F:∀(w:World) (mg:Str→Option Value) (fa:Addr) (h:Heap),(K w.params).In h→h.Ns mainGlobals mg→mg d.name=some (.ref fa) →
   ∃fd:FuncData,(∀(s:Shared) (u:Value),BindsTo s fd ⟨[u],[]⟩ [(x,u)]) ∧
    ∀base:Heap,(K w.params).In base→base.Ns mainGlobals mg→FnOk l.prog w (K w.params) mg base CX k fa fd [x] (sp (K w.params)))
  (hsp:∀(K:PySem.W.Frag) (H:Hp) (a:Addr) (ns:List Int),ns.length≤n→Only H→SqL K H a (ns.map V.int)→sp K [.ref a] H (fun v _=>v=.bl true) fun _ _ _=>False)
  (hCX:∀(H:Hp) (s:Shared) (e:Value) (s':Shared),CX [] H s (fun _ _ _=>False) e s'→False):
  PySem.W.WalkO q loose XP YP l.row.toRowW d [] (fun f vs=>PySem.call f vs):=
 Zh9 (K:=K) (CX:=fun _=>CX) (sp:=fun w=>sp (K w.params)) hn hn2 hdf hr hY F (fun w H a ns h1 h2 h3=>hsp (K w.params) H a ns h1 h2 h3) fun _ H s e s'=>hCX H s e s'
def inClass (s:Stmt)(j:Nat):Stmt:=match s with
 | .ClassDef _ _ _ body _ _ _ _ _ _ _=>body.getD j (.Pass ⟨0,0,0,0⟩)
 | _=>.Pass ⟨0,0,0,0⟩
def Zby (s:Stmt):Arguments:=match s with
 | .FunctionDef _ a _ _ _ _ _ _ _ _=>a
 | _=>{ posonlyargs:=[],args:=[],vararg:=none,kwonlyargs:=[],kw_defaults:=[],kwarg:=none,defaults:=[] }
def Zbf (s:Stmt):List Stmt:=match s with
 | .FunctionDef _ _ b _ _ _ _ _ _ _=>b
 | _=>[]
def Zah (s:Stmt):Scope:=match s with
 | .FunctionDef _ _ _ _ _ _ sc _ _ _=>sc
 | _=>{ kind:=.function,names:=[],isGenerator:=false,isCoroutine:=false }
abbrev CX0:CXT:=fun _ _ _ _ _ _=>False
abbrev E0:XK:=fun _ _ _=>False
theorem Zav {X:Cx}:Zb4 CX0 X E0:=fun _ _ _ _ _ _ _ h=>h.elim
structure Fun (K:PySem.W.Frag)(x qual:Str)(st:Stmt)(f:Addr)(fd:FuncData):Prop where
 ex:∃(oc:Value) (od:Option Addr) (kV doc pm:Value) (an:Option Addr) (cdv ct:Value) (osl:Array (Option Value)),
  fd=PySem.W.fnOf x qual (Zby st) (Zbf st) (Zah st) .none kV doc pm an cdv ct∧K.lookup f=some ⟨oc,od,.func fd,osl⟩∧PySem.W.codeIn K cdv qual=true
 kp:PySem.W.keepIn K (.ref f)=true
section
variable {P:Program}{w:World}{K:PySem.W.Frag}{mg:Str→Option Value}{base:Heap}
theorem Fun.ok {x qual:Str}{st:Stmt}{f:Addr}{fd:FuncData}{N ps:List Str}{k:Nat}{sp:Sp}(F:Fun K x qual st f fd)(S:FnScope N ps (Zah st))(len:∀vs H Q E,sp vs H Q E→vs.length=ps.length)
  (hbody:∀(cdv:Value) (A:Around) (outer:List Env) (s:Shared) (H:Hp) (vs:List V) (Q:VK) (E:XK),Room k (A.deeper (envOfC qual (Zah st) s.heap.objs.size f cdv))→sp vs H Q E →
   ∃t,PSs (cxOf CX0 P w K mg base N qual (Zah st) f cdv A outer s H E).nox (Zbf st) t∧t { nx:=fun _ H'=>Q .non H',rt:=Q } (start N vs) H):FnOk P w K mg base CX0 (k+1) f fd ps sp:=by
 obtain⟨oc,od,kV,doc,pm,an,cdv,ct,osl,rfl,lk,hcd⟩:=F.ex
 refine Zki lk hcd S len fun A outer s H vs Q E hr hsp=>?_
 obtain⟨t,h,q⟩:=hbody cdv A outer s H vs Q E hr hsp
 exact⟨t,h.nox,q⟩
theorem Fun.binds {x qual:Str}{st:Stmt}{f:Addr}{fd:FuncData}{ps:List Str}(F:Fun K x qual st f fd)
  (h:∀(kV doc pm:Value) (an:Option Addr) (cdv ct:Value) (us:List Value),us.length=ps.length→bindArgs (PySem.W.fnOf x qual (Zby st) (Zbf st) (Zah st) .none kV doc pm an cdv ct) ⟨us,[]⟩=pure (ps.zip us)):Binds K fd ps []:=by
 obtain⟨oc,od,kV,doc,pm,an,cdv,ct,osl,rfl,lk,hcd⟩:=F.ex
 exact .all (h kV doc pm an cdv ct)
theorem Zh0 {x qual:Str}{st:Stmt}{f:Addr}{oc:Value}{od an:Option Addr}{osl:Array (Option Value)}{kV doc pm cdv ct:Value}(l:K.lookup f=some ⟨oc,od,.func (PySem.W.fnOf x qual (Zby st) (Zbf st) (Zah st) .none kV doc pm an cdv ct),osl⟩)
  (c:PySem.W.codeIn K cdv qual=true) (k:PySem.W.keepIn K (.ref f)=true):Fun K x qual st f (PySem.W.fnOf x qual (Zby st) (Zbf st) (Zah st) .none kV doc pm an cdv ct):=⟨⟨oc,od,kV,doc,pm,an,cdv,ct,osl,rfl,l,c⟩,k⟩
end
theorem Zct {n:Nat}(h:n≤1000):n<sizeLine:=Nat.lt_of_le_of_lt h (by decide)
section
variable {X:Cx}
theorem pv (i:Nat) {x:Str} {pos:Pos} (hN:X.N[i]?=some x:=by rfl) (hv:Vis X.env.scope x:=by first | exact Or.inl rfl | exact Or.inr (Or.inl rfl) | exact Or.inr (Or.inr rfl)) (hd:(x == ("__debug__":Str))=false:=by decide)
  (hcd:(x == ("__classdict__":Str))=false:=by decide):PE X (.Name x pos) (tVar i):=ZjE hN hv hd hcd
end
theorem iteF {A B:Prop}(h:B):if false=true then A else B:=by
 rw[if_neg Bool.false_ne_true]
 exact h
theorem iteT {A B:Prop}(h:A):if true=true then A else B:=by
 rw[if_pos rfl]
 exact h
theorem ite2 {c A B:Prop}[Decidable c](h1:c→A)(h2:¬c→B):if c then A else B:=by
 by_cases h:c
 ·rw[if_pos h]
  exact h1 h
 ·rw[if_neg h]
  exact h2 h
def Same (H H':Hp):Prop:=∀b o,H b=some o→H' b=some o
theorem Same.refl (H:Hp):Same H H:=fun _ _ h=>h
theorem Same.trans {H H1 H2:Hp}(a:Same H H1)(b:Same H1 H2):Same H H2:=fun c o h=>b c o (a c o h)
theorem Same.free {H H':Hp}(e:Same H H'){l:Addr}(h:H' l=Option.none):H l=Option.none:=by
 cases q:H l with
 | none=>rfl
 | some o=>
  rw[e l o q]at h
  cases h
theorem Same.seq {K:PySem.W.Frag}{H H':Hp}{a:Addr}{xs:List V}(e:Same H H')(h:SqL K H a xs):SqL K H' a xs:=by
 rcases h with (h | ⟨o,h⟩) | h
 ·exact .inl (.inl (e _ _ h))
 ·exact .inl (.inr ⟨o,e _ _ h⟩)
 ·exact .inr h
section
variable {κ:Type}[DecidableEq κ]
def valV (kvs:List (κ×V))(k:κ):Option V:=(kvs.find? fun kv=>decide (kv.1=k)).map (·.2)
def putK (kvs:List (κ×V))(k:κ)(v:V):List (κ×V):=
 if (kvs.any fun kv=>decide (kv.1=k))=true then kvs.map (fun kv=>if kv.1=k then (kv.1,v) else kv) else kvs++[(k,v)]
def Zkk (kvs:List (κ×V))(k:κ):List (κ×V):=kvs.filter fun kv=>decide (kv.1≠k)
theorem KV.drop {kvs:List (κ×V)}{vs:List (κ×Value)}(r:KV kvs vs)(k:κ):KV (Zkk kvs k) (without vs k):=by
 unfold KV at r ⊢
 unfold Zkk without
 induction r with
 | nil=>exact .nil
 | @cons p q ps qs h t ih=>
  obtain⟨h1,h2⟩:=h
  rw[List.filter_cons,List.filter_cons]
  by_cases e:p.1=k
  ·have a:¬decide (p.1≠k)=true:=by simp[e]
   have b:¬decide (q.1≠k)=true:=by simp[h1.symm.trans e]
   rw[if_neg a,if_neg b];exact ih
  ·have e':¬q.1=k:=fun z=>e (h1.trans z)
   have a:decide (p.1≠k)=true:=by simp[e]
   have b:decide (q.1≠k)=true:=by simp[e']
   rw[if_pos a,if_pos b];exact .cons ⟨h1,h2⟩ ih
theorem KV.length {kvs:List (κ×V)}{vs:List (κ×Value)}(r:KV kvs vs):kvs.length=vs.length:=Paired.length r
end
section
variable {P:Program}{w:World}{H:Hp}{h:Heap}{a:Addr}
end
def DGet (H:Hp)(a:Addr)(y:V)(r:Option V):Prop:=
 (∃kvs k,Rd H a (.dK kvs)∧y=kV k∧r=valV kvs k)∨∃kvs k b,Rd H a (.dT kvs)∧y=.ref b∧H b=some (.tup (k.map kV))∧r=valV kvs k
def DPut (H:Hp)(a:Addr)(y v:V)(H':Hp):Prop:=
 (∃kvs k,H a=some (.dK kvs)∧y=kV k∧kvs.length<sizeLine∧H'=upd H a (.dK (putK kvs k v))) ∨
 ∃kvs k b,H a=some (.dT kvs)∧y=.ref b∧H b=some (.tup (k.map kV))∧kvs.length<sizeLine∧H'=upd H a (.dT (putK kvs k v))
theorem DGet.k {H:Hp}{a:Addr}{kvs:List (Key×V)}{k:Key}(e:H a=some (.dK kvs)):DGet H a (kV k) (valV kvs k):=.inl ⟨kvs,k,.inl e,rfl,rfl⟩
theorem DGet.t {H:Hp}{a b:Addr}{kvs:List (List Key×V)}{k:List Key}(e:H a=some (.dT kvs))(eb:H b=some (.tup (k.map kV))):DGet H a (.ref b) (valV kvs k):=.inr ⟨kvs,k,b,.inl e,rfl,eb,rfl⟩
theorem DPut.k {H:Hp}{a:Addr}{kvs:List (Key×V)}{k:Key}{v:V}(e:H a=some (.dK kvs))(hl:kvs.length<sizeLine):DPut H a (kV k) v (upd H a (.dK (putK kvs k v))):=.inl ⟨kvs,k,e,rfl,hl,rfl⟩
theorem DPut.t {H:Hp}{a b:Addr}{kvs:List (List Key×V)}{k:List Key}{v:V}(e:H a=some (.dT kvs))(eb:H b=some (.tup (k.map kV)))(hl:kvs.length<sizeLine):
  DPut H a (.ref b) v (upd H a (.dT (putK kvs k v))):=.inr ⟨kvs,k,b,e,rfl,eb,hl,rfl⟩
section
variable {X:Cx}{pins:List (Addr×Obj)}{σ:St}{H:Hp}{s:Shared}{a:Addr}{y v:V}{u r:Value}{o:Option V}{A:Around}{E:Value→Shared→Prop}
end
section
variable {X:Cx}{pins:List (Addr×Obj)}{σ:St}{H:Hp}{s:Shared}{a:Addr}{kvs:List (Key×V)}{k:Key}{u:Value}{A:Around}{E:Value→Shared→Prop}
end
section
variable {X:Cx}{o i e value:Expr}{pos pos' tpos:Pos}{td ty tv:TE}
end
def Zjj:TE:=fun _ H Q=>∀p,H p=none→Q (.ref p) (upd H p (.dK []))
section
variable {X:Cx}{pos:Pos}
end
def ZfZ:List (TE×TE)→St→Hp→(List (V×V)→Hp→Prop)→Prop
 | [],_,H,Q=>Q [] H
 | (tk,tv)::r,σ,H,Q=>tk σ H fun x H1=>tv σ H1 fun y H2=>ZfZ r σ H2 fun ps H3=>Q ((x,y)::ps) H3
def Zj0 (kvs more:List (Key×V)):List (Key×V):=more.foldl (fun acc kv=>putK acc kv.1 kv.2) kvs
def Zkv (trs:List (TE×TE)):TE:=fun σ H Q=>∀p,H p=none→ZfZ trs σ (upd H p (.dK [])) fun ps H2=>H2 p=some (.dK [])∧∃kvs:List (Key×V),ps=kvs.map (fun kv=>(kV kv.1,kv.2))∧kvs.length≤15∧Q (.ref p) (upd H2 p (.dK (Zj0 [] kvs)))
structure M1 (X:Cx)(o:Expr)(m:Str)(apos:Pos)(e:Expr)(cpos:Pos):Prop where
 base:attributeBase o m X.env (eval o X.env)=eval o X.env
 few:((backTo cpos (starEach [e] X.env)).all (fun x=>!x.1)&&(backToKw cpos (keywordEach [] X.env)).all (fun x=>x.1.isSome)
  && decide (([e]:List Expr).length+([]:List Keyword).length+(if ([]:List Keyword).isEmpty then 0 else 1)<30))=true
 line:(apos.endLine == cpos.line)=true
 trees:backTo cpos (starEach [e] X.env)=[(false,eval e X.env)]
structure M2 (X:Cx)(o:Expr)(m:Str)(apos:Pos)(e f:Expr)(cpos:Pos):Prop where
 base:attributeBase o m X.env (eval o X.env)=eval o X.env
 few:((backTo cpos (starEach [e,f] X.env)).all (fun x=>!x.1)&&(backToKw cpos (keywordEach [] X.env)).all (fun x=>x.1.isSome)
  && decide (([e,f]:List Expr).length+([]:List Keyword).length+(if ([]:List Keyword).isEmpty then 0 else 1)<30))=true
 line:(apos.endLine == cpos.line)=true
 trees:backTo cpos (starEach [e,f] X.env)=[(false,eval e X.env),(false,eval f X.env)]
section
variable {X:Cx}{pins:List (Addr×Obj)}{σ:St}{H:Hp}{s:Shared}{a:Addr}{y d:V}{u r:Value}{o:Option V}{A:Around}{E:Value→Shared→Prop}
end
section
variable {X:Cx}{o e f:Expr}{apos cpos:Pos}{td ty tx:TE}
end
section
variable {X:Cx}{pins:List (Addr×Obj)}{σ:St}{H:Hp}{s:Shared}{a:Addr}{kvs:List (Key×V)}{A:Around}{E:Value→Shared→Prop}
end
section
variable {X:Cx}{pins:List (Addr×Obj)}{σ:St}{H:Hp}{s:Shared}{a:Addr}{y:V}{u:Value}{A:Around}{E:Value→Shared→Prop}
end
section
variable {X:Cx}
end
section
variable {κ:Type}[DecidableEq κ]
end
def clOf (cells:List (Str×Addr)):List (Str×NameKind)→List (Str×Addr)→List (Str×Addr)
 | [],acc=>acc
 | (n,k)::r,acc=>if k == NameKind.free then clOf cells r ((n,(cells.lookup n).getD 0)::acc) else clOf cells r acc
theorem ZdH {cells:List (Str×Addr)}:∀(names:List (Str×NameKind)) (acc:List (Str×Addr)) (p:Str×Addr),p∈acc→p∈clOf cells names acc
 | [],_,_,h=>h
 | (n,k)::r,acc,p,h=>by
  unfold clOf
  split
  ·exact ZdH r _ p (List.mem_cons_of_mem _ h)
  ·exact ZdH r acc p h
theorem ZdI {cells:List (Str×Addr)}{x:Str}:∀(names:List (Str×NameKind)) (acc:List (Str×Addr)),(x,NameKind.free)∈names→(x,(cells.lookup x).getD 0)∈clOf cells names acc
 | [],_,h=>by cases h
 | (n,k)::r,acc,h=>by
  unfold clOf
  rcases List.mem_cons.mp h with e | h
  ·have e1:x=n:=congrArg Prod.fst e
   have e2:NameKind.free=k:=congrArg Prod.snd e
   subst e1 e2
   exact ZdH r _ _ List.mem_cons_self
  ·split
   ·exact ZdI r _ h
   ·exact ZdI r _ h
theorem ZeO {cells:List (Str×Addr)}:∀(names:List (Str×NameKind)) (acc:List (Str×Addr)) (p:Str×Addr),p∈clOf cells names acc→p∈acc∨((p.1,NameKind.free)∈names∧p.2=(cells.lookup p.1).getD 0)
 | [],_,_,h=>.inl h
 | (n,k)::r,acc,p,h=>by
  unfold clOf at h
  split at h
  ·rename_i hk
   have hk':k=NameKind.free:=by simpa using hk
   rcases ZeO r _ p h with q | ⟨q,e⟩
   ·rcases List.mem_cons.mp q with q | q
    ·subst q;subst hk';exact .inr ⟨List.mem_cons_self,rfl⟩
    ·exact .inl q
   ·exact .inr ⟨List.mem_cons_of_mem _ q,e⟩
  ·rcases ZeO r _ p h with q | ⟨q,e⟩
   ·exact .inl q
   ·exact .inr ⟨List.mem_cons_of_mem _ q,e⟩
theorem Zdg {sc:Scope}{env:Env}(h:∀y∈sc.names,y.2=NameKind.free→∃c,env.cells.lookup y.1=some c):closureFor sc env=pure (clOf env.cells sc.names []):=by
 have all:∀(names:List (Str×NameKind)) (acc:List (Str×Addr)),(∀y∈names,y.2=NameKind.free→∃c,env.cells.lookup y.1=some c) →
   (forIn names acc fun (y:Str×NameKind) (cs:List (Str×Addr))=>(if (y.2 == NameKind.free)=true then (do let a ←cellOf env y.1;pure (ForInStep.yield ((y.1,a)::cs))) else pure (ForInStep.yield cs):Sem (ForInStep (List (Str×Addr)))))=pure (clOf env.cells names acc):=by
  intro names
  induction names with
  | nil=>intro acc _;rfl
  | cons y r ih=>
   intro acc hy
   obtain⟨n,k⟩:=y
   rw[List.forIn_cons]
   unfold clOf
   by_cases hk:k=NameKind.free
   ·subst hk
    obtain⟨c,hc⟩:=hy (n,NameKind.free) List.mem_cons_self rfl
    have hc':env.cells.lookup n=some c:=hc
    simp only[beq_self_eq_true,if_true,cellOf,hc',pure_bind,Option.getD_some]
    exact ih _ fun z hz=>hy z (List.mem_cons_of_mem _ hz)
   ·have hb:(k == NameKind.free)=false:=by simpa using hk
    simp only[hb,Bool.false_eq_true,if_false,pure_bind]
    exact ih _ fun z hz=>hy z (List.mem_cons_of_mem _ hz)
 have q:=all sc.names [] h
 unfold closureFor
 show (forIn sc.names [] fun (y:Str×NameKind) (cs:List (Str×Addr))=>_) >>= _=_
 first
  | (rw[q];rfl)
  | (refine Eq.trans (congrArg (fun t=>t >>= fun cs=>pure cs) q) ?_;rfl)
structure CmpScope (X:Cx)(sc:Scope):Prop where
 kind:sc.kind=.function
 nocell:∀y∈sc.names,y.2≠NameKind.cell
 loc:∀y∈sc.names,y.2=NameKind.local→sc.names.lookup y.1=some .local
 clos:∀y∈sc.names,y.2=NameKind.free→(X.env.kindOf y.1=some .cell∨X.env.kindOf y.1=some .free)
def pick (ix:List (Option Nat))(σ:St):St:=ix.map fun o=>o.bind fun i=>(σ[i]?).join
def ZgA (N M:List Str)(sc:Scope)(ix:List (Option Nat)):Bool:=
 ix.length == N.length&&(N.zip ix).all fun p=>match p.2 with | none=>true | some i=>decide (M[i]?=some p.1)&&decide (sc.names.lookup p.1=some NameKind.free)
def bx (X:Cx)(sc:Scope)(N:List Str)(fp:List Addr)(s₀:Shared)(H:Hp)(pn:List (Addr×Obj)):Cx:=
 { X with N:=N,s₀:=s₀,H₀:=H,env:=compEnvC sc (clOf X.env.cells sc.names []) s₀.heap.objs.size X.env,outer:=X.stack,stack:=X.stack,ex:=fp,fn:=fun _=>false,pn:=pn,xe:=fun _ _=>False }
theorem Zcx {sc:Scope}{env:Env}{x:Str}{k:NameKind}(h:(relabel sc env).names.lookup x=some k):(x,k)∈sc.names∨(k=.cell∧(x,NameKind.free)∈sc.names):=by
 have m:=PySem.mem_of_lookup h
 unfold relabel at m
 obtain⟨⟨n,k'⟩,hm,e⟩:=List.mem_map.mp m
 dsimp only at e
 split at e
 ·rename_i hc
  have e1:n=x:=congrArg Prod.fst e
  have e2:NameKind.cell=k:=congrArg Prod.snd e
  have e3:k'=NameKind.free:=by
   rw[Bool.and_eq_true,Bool.and_eq_true]at hc
   simpa using hc.1.1
  subst e1 e2 e3
  exact .inr ⟨rfl,hm⟩
 ·have e1:n=x:=congrArg Prod.fst e
  have e2:k'=k:=congrArg Prod.snd e
  subst e1 e2
  exact .inl hm
theorem Zcf {env:Env}{x:Str}:∀ {names:List (Str×NameKind)},names.lookup x=some NameKind.free →
  (names.map fun (n,k)=>if (k == NameKind.free&&env.scope.kind == .function&&env.kindOf n == some .cell) then (n,NameKind.cell) else (n,k)).lookup x=some .cell ∨
  (names.map fun (n,k)=>if (k == NameKind.free&&env.scope.kind == .function&&env.kindOf n == some .cell) then (n,NameKind.cell) else (n,k)).lookup x=some .free
 | [],h=>by simp at h
 | (n,k)::r,h=>by
  by_cases hx:x=n
  ·subst hx
   simp only[List.lookup_cons,beq_self_eq_true]at h
   cases h
   simp only[List.map_cons]
   split
   ·left;simp[List.lookup_cons]
   ·right;simp[List.lookup_cons]
  ·have hb:(x == n)=false:=by simpa using hx
   simp only[List.lookup_cons,hb]at h
   have ih:=Zcf (env:=env) h
   simp only[List.map_cons]
   split
   ·simpa only[List.lookup_cons,hb] using ih
   ·simpa only[List.lookup_cons,hb] using ih
theorem ZbZ {α:Type}{x:Str}{c:α}:∀ {l:List (Str×α)},(x,c)∈l→∃c',l.lookup x=some c'
 | [],h=>by cases h
 | (n,d)::r,h=>by
  by_cases hx:x=n
  ·subst hx;exact⟨d,by simp[List.lookup_cons]⟩
  ·have hb:(x == n)=false:=by simpa using hx
   rcases List.mem_cons.mp h with e | h
   ·exact absurd (congrArg Prod.fst e) hx
   ·obtain⟨c',e⟩:=ZbZ h
    exact⟨c',by simpa only[List.lookup_cons,hb] using e⟩
section
variable {X:Cx}{pins:List (Addr×Obj)}{σ:St}{H:Hp}{s:Shared}{sc:Scope}{N:List Str}{fp:List Addr}{ix:List (Option Nat)}
theorem Inv.capt (I:Inv X pins σ H s)(S:CmpScope X sc):∀y∈sc.names,y.2=NameKind.free→∃c,X.env.cells.lookup y.1=some c:=fun y hy e=>I.ok.has y.1 (S.clos y hy e)
theorem Inv.clcell (I:Inv X pins σ H s)(S:CmpScope X sc){x:Str}{c:Addr}(h:(clOf X.env.cells sc.names []).lookup x=some c):X.env.cells.lookup x=some c:=by
 rcases ZeO _ _ _ (PySem.mem_of_lookup h) with q | ⟨q,e⟩
 ·cases q
 ·obtain⟨c',hc⟩:=I.capt S _ q rfl
  have hc':X.env.cells.lookup x=some c':=hc
  have e':c=(X.env.cells.lookup x).getD 0:=e
  rw[hc',Option.getD_some]at e'
  rw[e'];exact hc'
theorem Inv.clhas (I:Inv X pins σ H s)(S:CmpScope X sc){x:Str}(h:(x,NameKind.free)∈sc.names):∃c,(clOf X.env.cells sc.names []).lookup x=some c∧X.env.cells.lookup x=some c:=by
 obtain⟨c,e⟩:=ZbZ (ZdI (cells:=X.env.cells) sc.names [] h)
 exact⟨c,e,I.clcell S e⟩
theorem Inv.block {h1:Heap}{tk:Nat}{m:Str→Option Value}(I:Inv X pins σ H s)(S:CmpScope X sc)(hix:ZgA N X.N sc ix=true)(hf:∀b∈fp,FpOk X pins H b∧b<s.heap.objs.size)
  (hk:∀b o,s.heap.get? b=some o→h1.get? b=some o) (hn:h1.Ns s.heap.objs.size m):
  Inv (bx X sc N fp s H (X.pn++pins)) [] (pick ix σ) H { s with heap:=h1,toks:=tk }:=by
 have hC:∀b o,s.heap.get? b=some o→b≠s.heap.objs.size:=fun b o e=>Nat.ne_of_lt (Heap.lt_size e)
 have hcell:∀x c,(clOf X.env.cells sc.names []).lookup x=some c→∃v,s.heap.IsCell c v:=fun x c e=>I.cell x c (I.clcell S e)
 have stk:∀b,b≠X.env.locals→b∉X.fs→b∉frs X.stack:=fun b h1 h2 hb=>by
  rcases List.mem_cons.mp (I.stkSub b hb) with z | z
  ·exact h1 z
  ·exact h2 z
 rw[ZgA,Bool.and_eq_true]at hix
 refine⟨⟨I.ok.mod,S.kind,I.ok.glob,I.ok.blt,Nat.le_refl _,?_,?_,?_,I.ok.hd,I.ok.frames,.inl rfl,?_,I.bs,Nat.le_trans I.ok.bsz I.sz,?_,?_,I.stack,I.stkFree⟩,
  rfl,I.bare,Un.kept hk,⟨m,hn,?_⟩,?_,I.fresh,?_,?_,I.hok.kept hk,?_⟩
 ·intro x y c e1 e2
  exact I.ok.inj x y c (I.clcell S e1) (I.clcell S e2)
 ·intro x hx
  have hx:(relabel sc X.env).names.lookup x=some .cell∨(relabel sc X.env).names.lookup x=some .free:=hx
  have hm:(x,NameKind.free)∈sc.names:=by
   rcases hx with hx | hx
   ·rcases Zcx hx with q | ⟨_,q⟩
    ·exact absurd rfl (S.nocell _ q)
    ·exact q
   ·rcases Zcx hx with q | ⟨q,_⟩
    ·exact q
    ·cases q
  obtain⟨c,e,_⟩:=I.clhas S hm
  exact⟨c,e⟩
 ·intro x c z
  cases z
 ·intro b hb
  obtain⟨f,hlt⟩:=hf b hb
  refine⟨Nat.ne_of_lt hlt,fun x c e=>f.2.2.2.2.1 x c (I.clcell S e)⟩
 ·intro b o e hb
  obtain⟨⟨_,_,_,f3,_⟩,_⟩:=hf b hb
  rcases f3 with z | z
  ·exact I.ok.noex b o e z
  ·exact absurd (Heap.lt_size e) (Nat.not_lt.mpr (Nat.le_trans I.ok.bsz z))
 ·intro b hb
  obtain⟨⟨_,f1,f2,_⟩,_⟩:=hf b hb
  exact stk b f1 f2
 ·intro i x v e1 e2 e3
  have e1:N[i]?=some x:=e1
  have hi:∃j,ix[i]?=some (some j)∧σ[j]?=some (some v):=by
   unfold pick at e2
   rw[List.getElem?_map]at e2
   cases q:ix[i]? with
   | none=>rw[q]at e2;cases e2
   | some o=>
    rw[q]at e2
    cases o with
    | none=>cases e2
    | some j=>
     refine⟨j,rfl,?_⟩
     have e4:(σ[j]?).join=some v:=Option.some.inj e2
     cases q2:σ[j]? with
     | none=>rw[q2]at e4;cases e4
     | some w=>rw[q2]at e4;cases w with
      | none=>cases e4
      | some w=>rw[←e4];rfl
  obtain⟨j,hj,hσ⟩:=hi
  have hz:(x,some j)∈N.zip ix:=by
   have q:(N.zip ix)[i]?=some (x,some j):=by rw[List.getElem?_zip_eq_some];exact⟨e1,hj⟩
   exact List.mem_of_getElem? q
  have hp:=List.all_eq_true.mp hix.2 _ hz
  dsimp only at hp
  rw[Bool.and_eq_true]at hp
  have hM:X.N[j]?=some x:=of_decide_eq_true hp.1
  have hfr:sc.names.lookup x=some NameKind.free:=of_decide_eq_true hp.2
  have hmem:=PySem.mem_of_lookup hfr
  obtain⟨mo,hno,hlo⟩:=I.loc
  have hvis:Vis X.env.scope x:=by
   rcases S.clos _ hmem rfl with z | z
   ·exact .inr (.inl z)
   ·exact .inr (.inr z)
  obtain⟨u,ru,l⟩:=hlo j x v hM hσ hvis
  refine⟨u,ru,.inr ⟨?_,?_⟩⟩
  ·exact Zcf (env:=X.env) hfr
  ·obtain⟨c,e,e'⟩:=I.clhas S hmem
   refine⟨c,e,?_⟩
   rcases l with⟨k,_⟩|⟨_,c',ec,z⟩
   ·rcases S.clos _ hmem rfl with q | q
    ·rw[k]at q;cases q
    ·rw[k]at q;cases q
   ·rw[e']at ec
    cases ec
    obtain⟨o,ho,hd⟩:=z
    exact⟨o,hk _ _ ho,hd⟩
 ·intro x c e
  obtain⟨v,o,ho,hd⟩:=hcell x c e
  exact⟨v,o,hk _ _ ho,hd⟩
 ·intro x c e
  exact I.freeC x c (I.clcell S e)
 ·intro p hp
  have hp:p∈X.pn++pins:=by
   rcases List.mem_append.mp hp with z | z
   ·exact z
   ·cases z
  obtain⟨e,n,ne,nf,d⟩:=I.pin p hp
  exact⟨hk _ _ e,n,hC _ _ e,stk p.1 ne nf,d⟩
 ·show (pick ix σ).length=N.length
  unfold pick
  rw[List.length_map]
  simpa using hix.1
theorem Inv.unblock {τ:St}{H':Hp}{s':Shared}{h':Heap}(I:Inv X pins σ H s)(hf:∀b∈fp,FpOk X pins H b)(J:Inv (bx X sc N fp s H (X.pn++pins)) [] τ H' s')(hs:Heap.SameBut s.heap.objs.size s'.heap h'):
  Inv X pins σ H' { s' with heap:=h' }:=by
 have nC:∀b o,s.heap.get? b=some o→b≠s.heap.objs.size:=fun b o e=>Nat.ne_of_lt (Heap.lt_size e)
 have hfr:H' s.heap.objs.size=none:=J.free
 have u:Un (frs X.stack) fp H H' s.heap s'.heap:=J.base
 have ok:HOk X.prog X.w H' h':=fun b ob e=>by
  refine(J.hok b ob e).stay (fun c w' hc q=>(hs.2 c ?_).trans q) (fun _ q=>q) fun _ _ q=>q
  rintro rfl
  rcases hc with rfl | hc
  ·rw[hfr]at e;cases e
  ·rw[hfr]at hc;cases hc
 refine I.call' (ch:=fp) J.os ⟨fun b o e n h1 h2=>(hs.2 b (nC b o e)).trans (u.keep b o e n h1 h2),fun b o e n h1 h2=>?_,u.free,fun b o e h2=>?_,u.tups,u.frzs,u.tbls⟩ ok J.bare fun b hb=>?_
 ·obtain⟨sl,q⟩:=u.slot b o e n h1 h2
  exact⟨sl,(hs.2 b (nC b o e)).trans q⟩
 ·obtain⟨o',q⟩:=u.there b o e h2
  exact⟨o',(hs.2 b (nC b o e)).trans q⟩
 ·obtain⟨_,f1,_,f3,f4,f5⟩:=hf b hb
  exact⟨f3,f1,f4,f5⟩
end
def PIfs (X:Cx)(ifs:List Expr)(t:TT):Prop:=
 ∀(pins:List (Addr×Obj)) (s:Shared) (σ:St) (H:Hp) (Q:Bool→Hp→Prop),Inv X pins σ H s→t σ H Q →
  wpAny (model X.prog X.w) X.A (forIn ifs true fun c r=>if r=true then do let ok ←isTrue c X.env (eval c X.env);pure (ForInStep.yield ok) else pure (ForInStep.yield r)) (TP X pins σ Q) X.xe s
def tAll:TT:=fun _ H Q=>Q true H
theorem Zdr {X:Cx}:PIfs X [] tAll:=fun _ _ _ H _ I h=>wpAny_tests_nil ⟨H,I,h⟩
theorem Zdq {X:Cx}{c:Expr}{t:TT}(h:PT X c t):PIfs X [c] t:=fun pins s σ H Q I q=>wpAny_tests_one (h pins s σ H Q I q)
theorem Zeh {prog:Program}{w:World}{A:Around}{R:Result→Shared→Prop}{s:Shared}{el tgt iter:Expr}{ifs:List Expr}{scp:Scope}{pos:Pos}{it acc:Value}{env:Env}(W:Nat→Shared→Prop)
  (turn:∀n s,W n s→wpAny (model prog w) A (pyNext it) (fun r s₁=>match r with
   | none=>R (.ok .next) s₁
   | some v=>wpAny (model prog w) A (letOwnedTupleGo tgt it v) (fun _ s₁'=>wpAny (model prog w) A (assign tgt env v) (fun _ s₂=>
     wpAny (model prog w) A (forIn ifs true fun c r=>if r=true then do let ok ←isTrue c env (eval c env);pure (ForInStep.yield ok) else pure (ForInStep.yield r)) (fun ok s₃=>
      if ok=true then wpAny (model prog w) A (eval el env) (fun x s₄=>
       wpAny (model prog w) A (call (.builtin "list.append") [acc,x]) (fun _ s₅=>∃m,m<n∧W m s₅) (fun _ _=>False) s₄) (fun _ _=>False) s₃
      else ∃m,m<n∧W m s₃) (fun _ _=>False) s₂) (fun _ _=>False) s₁') (fun _ _=>False) s₁) (fun _ _=>False) s)
  (n:Nat) (h:W n s):codeAny (model prog w) A (.compLoop (.ListComp el [⟨tgt,iter,ifs,0⟩] scp pos) 0 it acc env) R s:=by
 refine codeAny_loop rfl W (fun n s hI=>?_) n h
 show wpAny _ A ((compTurn (.ListComp el [⟨tgt,iter,ifs,0⟩] scp pos) 0 it acc env).onRaise (fun x=>do noteFrame x env;theTreesLotGoes x)) _ _ s
 refine wpAny_noted ?_
 rw[compTurn_list]
 refine wpAny_bind (wpAny_standAt (wpAny_bind (wpAny_mono (turn n s hI) (fun r s1 q1=>?_) fun _ _ z=>z.elim)))
 cases r with
 | none=>exact wpAny_pure q1
 | some v=>
  refine wpAny_bind (wpAny_mono q1 (fun _ s1' q1'=>?_) fun _ _ z=>z.elim)
  refine wpAny_bind (wpAny_mono q1' (fun _ s2 q2=>wpAny_bind (wpAny_mono q2 (fun ok s3 q3=>?_) fun _ _ z=>z.elim)) fun _ _ z=>z.elim)
  cases ok with
  | false=>exact wpAny_pure ⟨rfl,q3⟩
  | true=>exact wpAny_bind (wpAny_bind (wpAny_mono q3 (fun x s4 q4=>wpAny_bind (wpAny_mono q4 (fun _ s5 q5=>wpAny_pure (wpAny_pure ⟨rfl,q5⟩)) fun _ _ z=>z.elim)) fun _ _ z=>z.elim))
def Zic (ix:List (Option Nat))(wi:TI)(g:TG)(tt:TT)(te:TE):TE:=fun σ H Q=>wi σ H fun J H1=>∀acc,H1 acc=none→∃W:Nat→Nat→St→Hp→Prop,(∃m,W 0 m (pick ix σ) (upd H1 acc (.lst []))) ∧
 ∀i m τ H2,W i m τ H2→(J.stop i H2∧Q (.ref acc) H2)∨(J.go i H2∧∃Nx:St→Hp→Prop,(∀τ' H',Nx τ' H'→∃m',m'<m∧W (i+1) m' τ' H') ∧
  ∀x H3,J.yld i H2 x H3→g x τ H3 fun τ2 H4=>tt τ2 H4 fun b H5=>if b=true then te τ2 H5 fun y H6=>∃ys,H6 acc=some (.lst ys)∧ys.length<sizeLine∧Nx τ2 (upd H6 acc (.lst (ys++[y]))) else Nx τ2 H5)
section
variable {X:Cx}{sc:Scope}{N:List Str}{ix:List (Option Nat)}{elt tg iter:Expr}{ifs:List Expr}{pos:Pos}{wi:TI}{g:TG}{tt:TT}{te:TE}
theorem Zdf {Q:VK}{pins:List (Addr×Obj)}{s:Shared}{σ:St}{H:Hp}{it:Addr}{fp:List Addr}{tn:Nat→Heap→Prop}{J:It}{RR:Value→Addr→Result→Shared→Prop}
  (hc:X.calm=true) (S:CmpScope X sc) (hix:ZgA N X.N sc ix=true)
  (hg:∀fp s₀ H₀ pn,PG (bx X sc N fp s₀ H₀ pn) tg g) (ht:∀fp s₀ H₀ pn,PIfs (bx X sc N fp s₀ H₀ pn) ifs tt) (he:∀fp s₀ H₀ pn,PE (bx X sc N fp s₀ H₀ pn) elt te)
  (I:Inv X pins σ H s) (T:Turn X.prog X.w X.K tg J fp it tn) (st:tn 0 s.heap) (hf:∀b∈fp,FpOk X pins H b)
  (q:∀acc,H acc=none→∃W:Nat→Nat→St→Hp→Prop,(∃m,W 0 m (pick ix σ) (upd H acc (.lst []))) ∧
   ∀i m τ H2,W i m τ H2→(J.stop i H2∧Q (.ref acc) H2)∨(J.go i H2∧∃Nx:St→Hp→Prop,(∀τ' H',Nx τ' H'→∃m',m'<m∧W (i+1) m' τ' H') ∧
    ∀x H3,J.yld i H2 x H3→g x τ H3 fun τ2 H4=>tt τ2 H4 fun b H5=>if b=true then te τ2 H5 fun y H6=>∃ys,H6 acc=some (.lst ys)∧ys.length<sizeLine∧Nx τ2 (upd H6 acc (.lst (ys++[y]))) else Nx τ2 H5))
  (hR:∀(acc:Addr) (s₃ s':Shared) (τ:St) (H':Hp),Inv X pins σ (upd H acc (.lst [])) s₃→(∀b∈fp,FpOk X pins (upd H acc (.lst [])) b)→Inv (bx X sc N fp s₃ (upd H acc (.lst [])) (X.pn++pins)) [] τ H' s'→Q (.ref acc) H' →
   RR (.ref acc) s₃.heap.objs.size (.ok .next) s'):
  wpAny (model X.prog X.w) X.A (newList []) (fun acc s₃=>wpAny (model X.prog X.w) X.A (newFunctionEnv sc X.env.globals (clOf X.env.cells sc.names []) [] X.env.qual none .none (some X.env)) (fun cenv s₄=>
   codeAny (model X.prog X.w) X.A (.compStart (.ListComp elt [⟨tg,iter,ifs,0⟩] sc pos) 0 (.ref it) acc { cenv with scope:=relabel sc X.env }) (RR acc cenv.locals) s₄) X.xe s₃) X.xe s:=by
 refine wpAny_newObj_type ?_
 have hfr:=I.fresh
 have I3:=I.lnew (its:=[]) (ys:=[]) (t':=s.toks) .nil (Nat.zero_le _)
 have fne:∀b∈fp,b<s.heap.objs.size:=fun b hb=>by
  obtain⟨o,e,_⟩:=T.obj 0 _ st b hb
  exact Heap.lt_size e
 have hf3:∀b∈fp,FpOk X pins (upd H s.heap.objs.size (.lst [])) b:=fun b hb=>by
  obtain⟨f0,f⟩:=hf b hb
  refine⟨?_,f⟩
  rw[Zau (Nat.ne_of_lt (fne b hb))]
  exact f0
 have q3:=q _ hfr
 have st3:tn 0 (s.heap.push { cls:=.type "list",data:=.seq ([]:List Value).toArray }):=T.keep _ _ _ st fun b _ o e=>Heap.get?_push_of_some _ e
 generalize e3:({ s with heap:=s.heap.push { cls:=.type "list",data:=.seq ([]:List Value).toArray },toks:=s.toks }:Shared)=s3 at I3
 have es3:s3.heap=s.heap.push { cls:=.type "list",data:=.seq ([]:List Value).toArray }:=by rw[←e3]
 rw[←es3]at st3
 have hf3':∀b∈fp,FpOk X pins (upd H s.heap.objs.size (.lst [])) b∧b<s3.heap.objs.size:=fun b hb=>⟨hf3 b hb,by rw[es3,Heap.size_push];exact Nat.lt_succ_of_lt (fne b hb)⟩
 refine wpAny_newFunctionEnv S.nocell (by intro y hy;cases hy) (fun h₁ hns₁ hsb₁=>?_) S.kind
 have hk:∀b o,s3.heap.get? b=some o→h₁.get? b=some o:=fun b o e=>hsb₁.extBut b o (Nat.ne_of_lt (Heap.lt_size e)) (Heap.get?_push_of_some _ e)
 have I4:=I3.block (N:=N) (ix:=ix) (tk:=s3.toks+([]:List (Str×Value)).length) S hix hf3' hk hns₁
 have st4:tn 0 h₁:=T.keep _ _ _ st3 fun b _ o e=>hk b o e
 obtain⟨W,⟨m0,w0⟩,turn⟩:=q3
 have statN:∀ {H':Hp},(∀b∈fp,H' b=none)→∀b∈fp,FpOk (bx X sc N fp s3 (upd H s.heap.objs.size (.lst [])) (X.pn++pins)) [] H' b:=fun {H'} hn b hb=>by
  obtain⟨⟨_,f1,f2,f3,f4,f5⟩,hlt⟩:=hf3' b hb
  refine⟨hn b hb,Nat.ne_of_lt hlt,fun z=>?_,.inl hb,fun x c e=>f4 x c (I3.clcell S e),fun p hp=>?_⟩
  ·rcases List.mem_cons.mp (I3.stkSub b z) with z | z
   ·exact f1 z
   ·exact f2 z
  ·refine f5 p ?_
   rcases List.mem_append.mp hp with z | z
   ·exact z
   ·cases z
 have loop:∀s4:Shared,s4={ s3 with heap:=h₁,toks:=s3.toks+([]:List (Str×Value)).length } →
   codeAny (model X.prog X.w) X.A (.compLoop (.ListComp elt [⟨tg,iter,ifs,0⟩] sc pos) 0 (.ref it) (.ref s.heap.objs.size) (compEnvC sc (clOf X.env.cells sc.names []) s3.heap.objs.size X.env)) (RR (.ref s.heap.objs.size) s3.heap.objs.size) s4:=by
  rintro s4 rfl
  refine Zeh (fun n s'=>∃i τ H',Inv (bx X sc N fp s3 (upd H s.heap.objs.size (.lst [])) (X.pn++pins)) [] τ H' s'∧tn i s'.heap∧(∀b∈fp,H' b=none)∧W i n τ H') ?_ m0 ⟨0,_,_,I4,st4,fun b hb=>(hf3 b hb).1,w0⟩
  rintro n s5 ⟨i,τ,H5,I5,st5,fr5,w5⟩
  rcases turn i n τ H5 w5 with⟨stop,qn⟩|⟨go,Nx,hN,step⟩
  ·refine thn (T.done (bx X sc N fp s3 (upd H s.heap.objs.size (.lst [])) (X.pn++pins)) rfl rfl rfl hc i [] s5 τ H5 (fun _ _=>False) I5 (statN fr5) st5 stop) fun r s6 ⟨hr,I6⟩=>?_
   subst hr
   exact hR _ _ _ _ _ I3 hf3 I6 qn
  ·refine thn (T.item (bx X sc N fp s3 (upd H s.heap.objs.size (.lst [])) (X.pn++pins)) rfl rfl rfl hc i [] s5 τ H5 (fun _ _=>False) I5 (statN fr5) st5 go) fun r s6 ⟨u,hr,h6⟩=>?_
   subst hr
   refine thn h6 fun _ s7 ⟨x,H7,I7,r7,y7,st7,fr7⟩=>?_
   have I7':=I7.pinned (statN fr7) (T.obj _ _ st7)
   refine thn (hg _ _ _ _ _ s7 τ H7 x u _ I7' r7 (step x H7 y7)) fun _ s8 ⟨τ8,H8,I8,q8⟩=>?_
   have again:∀ {s9:Shared} {τ9:St} {H9:Hp},Inv (bx X sc N fp s3 (upd H s.heap.objs.size (.lst [])) (X.pn++pins)) ([]++ZdU fp s7.heap) τ9 H9 s9→Nx τ9 H9 →
     ∃m,m<n∧∃i τ H',Inv (bx X sc N fp s3 (upd H s.heap.objs.size (.lst [])) (X.pn++pins)) [] τ H' s9∧tn i s9.heap∧(∀b∈fp,H' b=none)∧W i m τ H':=fun {s9 τ9 H9} I9 n9=>by
    obtain⟨m',hm,w9⟩:=hN τ9 H9 n9
    refine⟨m',hm,i+1,τ9,H9,I9.unpinned,T.keep _ _ _ st7 fun b hb o e=>(I9.pin (b,o) (List.mem_append_right _ (List.mem_append_right _ (ZbA hb e)))).1,fun b hb=>?_,w9⟩
    obtain⟨o,e,d⟩:=T.obj _ _ st7 b hb
    exact(I9.pin (b,o) (List.mem_append_right _ (List.mem_append_right _ (ZbA hb e)))).2.1
   refine thn (ht _ _ _ _ _ s8 τ8 H8 _ I8 q8) fun ok s9 ⟨H9,I9,q9⟩=>?_
   cases ok with
   | false=>exact again I9 q9
   | true=>
    rw[if_pos rfl]at q9 ⊢
    refine thn (he _ _ _ _ _ s9 τ8 H9 _ I9 q9) fun yv s10 ⟨y,H10,I10,r10,ys,ha,hz,q10⟩=>?_
    refine thn (Zd3 _ s10 τ8 H10 (.ref s.heap.objs.size) [y] (.ref s.heap.objs.size) [yv] (fun v H'=>v=.non∧Nx τ8 H') I10 rfl (.cons r10 .nil) ⟨_,ys,y,rfl,rfl,ha,hz,rfl,q10⟩) fun _ s11 ⟨_,H11,I11,_,_,q11⟩=>?_
    exact again I11 q11
 exact codeAny_compStart_list (loop _ rfl) (T.self _ 0 _ _ _ st4 (loop _ rfl))
theorem ZcA (hc:X.calm=true)(S:CmpScope X sc)(hix:ZgA N X.N sc ix=true)(hi:PI X tg iter wi)
  (hg:∀fp s₀ H₀ pn,PG (bx X sc N fp s₀ H₀ pn) tg g) (ht:∀fp s₀ H₀ pn,PIfs (bx X sc N fp s₀ H₀ pn) ifs tt) (he:∀fp s₀ H₀ pn,PE (bx X sc N fp s₀ H₀ pn) elt te)
  (hs:∀x,foldedSetIterable iter X.env x=pure x:=by intro _;rfl):PE X (.ListComp elt [⟨tg,iter,ifs,0⟩] sc pos) (Zic ix wi g tt te):=by
 intro pins s σ H Q I h
 rw[eval_ListComp]
 refine wpAny_comprehension_free (use:=none) rfl hs (Zdg (I.capt S)) S.kind S.loc (thn (hi pins s σ H _ I h) fun v s1 h1=>thn h1 fun itv s2 h2=>?_)
 obtain⟨it,fp,tn,J,H2,e,I2,T,st2,f2,q⟩:=h2
 subst e
 refine Zdf (Q:=Q) (RR:=fun acc C=>compPost (model X.prog X.w) X.A X.xe none (EP X pins σ Q) acc C) hc S hix hg ht he I2 T st2 f2 q ?_
 intro acc s3 s' τ H' I3 hf3 J' qq
 obtain⟨m,hn,_⟩:=J'.loc
 exact⟨m,hn,fun h' hs'=>⟨.ref acc,H',I3.unblock hf3 J' hs',rfl,qq⟩⟩
theorem Zio {i:Nat}{x:Str}{px spos:Pos}(hsw:swapsWith (.ListComp elt [⟨tg,iter,ifs,0⟩] sc pos) (some (.Name x px)) spos.line X.env=pure true)
  (hN:X.N.Nodup) (hi':X.N[i]?=some x) (hx:X.env.scope.names.lookup x=some .local) (hc:X.calm=true) (S:CmpScope X sc) (hix:ZgA N X.N sc ix=true) (hi:PI X tg iter wi)
  (hg:∀fp s₀ H₀ pn,PG (bx X sc N fp s₀ H₀ pn) tg g) (ht:∀fp s₀ H₀ pn,PIfs (bx X sc N fp s₀ H₀ pn) ifs tt) (he:∀fp s₀ H₀ pn,PE (bx X sc N fp s₀ H₀ pn) elt te)
  (hs:∀x,foldedSetIterable iter X.env x=pure x:=by intro _;rfl):PS X (.Assign [.Name x px] (.ListComp elt [⟨tg,iter,ifs,0⟩] sc pos) spos) (tAsg (Zic ix wi g tt te) (ZcQ i)):=by
 intro pins s σ H D I h
 rw[exec_Assign_Name_used _ _ _ _ hsw]
 refine wpAny_bind (wpAny_standAt (wpAny_bind ?_))
 show wpAny _ X.A (do let _ ←comprehension (.ListComp elt [⟨tg,iter,ifs,0⟩] sc pos) sc X.env _ (newList []) false (eval iter X.env) (some (assign (.Name x px) X.env))) _ _ s
 refine wpAny_bind (wpAny_mono (wpAny_comprehension_free (use:=some (assign (.Name x px) X.env)) (Q:=fun _ s'=>SP X pins D .next s') rfl hs (Zdg (I.capt S)) S.kind S.loc
  (thn (hi pins s σ H _ I h) fun v s1 h1=>thn h1 fun itv s2 h2=>?_)) (fun _ s' hq=>wpAny_pure (wpAny_pure hq)) fun _ _ z=>z)
 obtain⟨it,fp,tn,J,H2,e,I2,T,st2,f2,q⟩:=h2
 subst e
 refine Zdf (Q:=fun y H1=>ZcQ i y σ H1 D.nx) (RR:=fun acc C=>compPost (model X.prog X.w) X.A X.xe (some (assign (.Name x px) X.env)) (fun _ s'=>SP X pins D .next s') acc C) hc S hix hg ht he I2 T st2 f2 q ?_
 intro acc s3 s' τ H' I3 hf3 J' qq
 show wpAny _ X.A (assign (.Name x px) X.env (.ref acc)) _ _ _
 have I5:Inv X pins σ H' s':=I3.unblock hf3 J' (.refl ..)
 obtain⟨m,hn,_⟩:=J'.loc
 have hn:s'.heap.Ns s3.heap.objs.size m:=hn
 have hLC:s3.heap.objs.size≠X.env.locals:=Nat.ne_of_gt I3.lt
 refine wpAny_assign_Name (ZdO I5 hN hi' (.inl hx) (v:=.ref acc) rfl (fun s6 I6 ⟨a,sb,ha⟩=>?_) (.inr hx))
 have ea:a≠s3.heap.objs.size:=by
  rcases ha with ha | ha
  ·rw[ha];exact Ne.symm hLC
  ·obtain⟨v,o,ho,_⟩:=I3.cell x a ha
   exact Nat.ne_of_lt (Heap.lt_size ho)
 refine⟨m,hn.sameBut sb (Ne.symm ea),fun h' hs'=>?_⟩
 have hfr:H' s3.heap.objs.size=none:=J'.free
 refine⟨_,H',?_,qq⟩
 have ok:HOk X.prog X.w H' h':=fun b ob e=>by
  refine(I6.hok b ob e).stay (fun c w' hc q=>(hs'.2 c ?_).trans q) (fun _ q=>q) fun _ _ q=>q
  rintro rfl
  rcases hc with rfl | hc
  ·rw[hfr]at e;cases e
  ·rw[hfr]at hc;cases hc
 have l3:X.s₀.heap.objs.size≤s3.heap.objs.size:=I3.sz
 have cne:∀y c,X.env.cells.lookup y=some c→c≠s3.heap.objs.size:=fun y c e z=>by
  obtain⟨v,o,ho,_⟩:=I3.cell y c e
  exact absurd (Heap.lt_size ho) (by rw[z];exact Nat.lt_irrefl _)
 exact I6.turned (t':=s6.toks) (it:=s3.heap.objs.size) (fun b o hb e=>(hs'.2 b hb).trans e) hfr hLC (.inr l3) cne fun p hp z=>by
  have:=(I3.pin p hp).1
  exact absurd (Heap.lt_size this) (by rw[z];exact Nat.lt_irrefl _)
end
abbrev tx (l:List Nat):V:=.str ⟨l.toArray⟩
theorem ZbQ {a b:List Nat}:tx a=tx b↔a=b:=by
 constructor
 ·intro h
  have h1:(⟨a.toArray⟩:Str)=⟨b.toArray⟩:=V.str.inj h
  have h2:a.toArray=b.toArray:=congrArg Str.cps h1
  simpa using h2
 ·rintro rfl;rfl
theorem Zcg {a b:List Nat}:decide (tx a=tx b)=decide (a=b):=by
 by_cases h:a=b
 ·subst h;simp
 ·rw[decide_eq_false h,decide_eq_false fun z=>h (ZbQ.mp z)]
theorem Zcp (l:List Nat):(⟨l.toArray⟩:Str).length=l.length:=by
 show l.toArray.size=l.length
 simp
def rT (C:List Nat→List Nat→Prop)(g:List Nat→List Nat→V):R2:=fun x y H Q=>∃a b,x=tx a∧y=tx b∧C a b∧Q (g a b) H
def cut {α:Type}(l:List α)(lo hi:Option Int):List α:=(l.drop (HT.sIx l.length 0 lo)).take (HT.sIx l.length l.length hi-HT.sIx l.length 0 lo)
theorem ZbF {α:Type}(l:List α)(lo hi:Option Int):(cut l lo hi).length≤l.length:=by
 unfold cut
 rw[List.length_take,List.length_drop]
 omega
theorem ZgS {α:Type}(l:List α)(a b:Nat):cut l (some (a:Int)) (some (b:Int))=(l.drop a).take (b-a):=by
 unfold cut
 rw[HT.sIx_nat,HT.sIx_nat]
 apply List.ext_getElem?
 intro i
 simp only[List.getElem?_take,List.getElem?_drop]
 by_cases h1:i<min b l.length-min a l.length
 ·rw[if_pos h1,if_pos (by omega)]
  congr 1;omega
 ·rw[if_neg h1]
  by_cases h2:i<b-a
  ·rw[if_pos h2,List.getElem?_eq_none (by omega)]
  ·rw[if_neg h2]
theorem Zbk {α:Type}(l:List α)(b:Nat):cut l none (some (b:Int))=l.take b:=by
 unfold cut
 rw[HT.sIx_nat,HT.sIx_none]
 apply List.ext_getElem?
 intro i
 simp only[List.getElem?_take,List.getElem?_drop,Nat.zero_add,Nat.sub_zero]
 by_cases h1:i<min b l.length
 ·rw[if_pos h1,if_pos (by omega)]
 ·rw[if_neg h1]
  by_cases h2:i<b
  ·rw[if_pos h2,List.getElem?_eq_none (by omega)]
  ·rw[if_neg h2]
theorem Za5 {α:Type}(l:List α)(a:Nat):cut l (some (a:Int)) none=l.drop a:=by
 unfold cut
 rw[HT.sIx_nat,HT.sIx_none]
 apply List.ext_getElem?
 intro i
 simp only[List.getElem?_take,List.getElem?_drop]
 by_cases h1:i<l.length-min a l.length
 ·rw[if_pos h1];congr 1;omega
 ·rw[if_neg h1,List.getElem?_eq_none (by omega)]
def clp (n:Nat)(v:Option Int)(d:Int):Int:=match v with
 | none=>d
 | some i=>max 0 (min (if i<0 then i+(n:Int) else i) (n:Int))
theorem Zh5 (n d:Nat)(o:Option Int):clp n o (d:Int)=((HT.sIx n d o:Nat):Int):=by
 cases o with
 | none=>rw[HT.sIx_none];rfl
 | some v=>
  have:=HT.clip_eq v n d
  unfold clp
  dsimp only
  rw[←this]
  split<;>omega
theorem Zf3 (lo hi:Option Int)(n:Nat):Builtin.Str.strSliceIndices lo hi 1 n=(List.range (HT.sIx n n hi-HT.sIx n 0 lo)).map fun k=>HT.sIx n 0 lo+k:=by
 have g:Builtin.Str.strSliceIndices lo hi 1 n=sliceRange (clp n lo ((0:Nat):Int)) (clp n hi (n:Int)) 1:=by
  cases lo<;>cases hi<;>rfl
 rw[g,Zh5,Zh5]
 generalize HT.sIx n 0 lo=a
 generalize HT.sIx n n hi=b
 unfold sliceRange
 have hc:(if (1:Int)>0 then (if (a:Int)<(b:Int) then ((b:Int)-a+1-1)/1 else 0) else (if (a:Int)>(b:Int) then ((a:Int)-b-1-1)/(-1) else 0)).toNat=b-a:=by
  simp only[show (1:Int)>0 by decide,if_true,Int.ediv_one]
  split<;>omega
 dsimp only
 rw[hc]
 apply List.map_congr_left
 intro k _
 omega
theorem Zg2 (l:List Nat)(lo hi:Option Int):Txt.slice ⟨l.toArray⟩ lo hi=⟨(cut l lo hi).toArray⟩:=by
 have h1:=HT.sIx_le l.length 0 (Nat.zero_le _) lo
 have h2:=HT.sIx_le l.length l.length (Nat.le_refl _) hi
 unfold Txt.slice
 rw[Zcp,Zf3]
 have e:((List.range (HT.sIx l.length l.length hi-HT.sIx l.length 0 lo)).map fun k=>HT.sIx l.length 0 lo+k).filterMap (fun i=>l.toArray[i]?)=cut l lo hi:=by
  unfold cut
  generalize HT.sIx l.length 0 lo=a at *
  generalize HT.sIx l.length l.length hi=b at *
  have hab:∀n,a+n≤l.length→((List.range n).map fun k=>a+k).filterMap (fun i=>l.toArray[i]?)=(l.drop a).take n:=by
   intro n
   induction n with
   | zero=>intro _;simp
   | succ n ih=>
    intro hn
    rw[List.range_succ,List.map_append,List.filterMap_append,ih (by omega),List.take_add_one]
    have:(l.drop a)[n]?=l[a+n]?:=List.getElem?_drop
    simp[this,List.getElem?_eq_getElem (show a+n<l.length by omega)]
  by_cases hle:a≤b
  ·exact hab _ (by omega)
  ·have:b-a=0:=by omega
   rw[this];simp
 split
 ·rename_i hc
  simp only[beq_self_eq_true,Bool.true_and,List.length_map,List.length_range]at hc
  have hc':HT.sIx l.length l.length hi-HT.sIx l.length 0 lo=l.length:=by simpa using hc
  have:cut l lo hi=l:=by
   unfold cut
   have ha:HT.sIx l.length 0 lo=0:=by omega
   rw[hc',ha,List.drop_zero,List.take_of_length_le (Nat.le_refl _)]
  rw[this]
 ·show (⟨(List.filterMap (fun i=>l.toArray[i]?) _).toArray⟩:Str)=_
  rw[e]
section
variable {X:Cx}
theorem Zaz:OpR X (binaryOp .Add) (rT (fun a b=>a.length+b.length≤sizeLine) fun a b=>tx (a++b)):=by
 rintro pins s σ H x y v u Q I rx ry ⟨a,b,rfl,rfl,hz,q⟩
 refine Zfv pins s σ H _ _ v u Q I rx ry ⟨_,_,rfl,rfl,by rw[Zcp,Zcp];exact hz,?_⟩
 have e:((⟨a.toArray⟩:Str)++(⟨b.toArray⟩:Str))=⟨(a++b).toArray⟩:=by
  show (⟨a.toArray++b.toArray⟩:Str)=_
  simp
 rw[e];exact q
theorem Zfu:OpR X (compareOp .In) (fun x y H Q=>∃c l,x=tx [c]∧y=tx l∧Q (.bl (decide (c∈l))) H):=by
 rintro pins s σ H x y v u Q I rx ry ⟨c,l,rfl,rfl,q⟩
 refine Zgi pins s σ H _ _ v u Q I rx ry ⟨_,_,rfl,rfl,?_⟩
 have e:=StrLaws.found_one ⟨l.toArray⟩ c
 have e':(!(Builtin.Str.occurrences ⟨l.toArray⟩ ⟨[c].toArray⟩ 0 (⟨l.toArray⟩:Str).length 1).isEmpty)=decide (c∈l):=by
  rw[show ([c].toArray)=#[c] from rfl,e]
 rw[e'];exact q
theorem Zdu:OpR X (compareOp .NotIn) (fun x y H Q=>∃c l,x=tx [c]∧y=tx l∧Q (.bl (!decide (c∈l))) H):=by
 rintro pins s σ H x y v u Q I rx ry ⟨c,l,rfl,rfl,q⟩
 refine ZdZ pins s σ H _ _ v u Q I rx ry ⟨_,_,rfl,rfl,?_⟩
 have e:=StrLaws.found_one ⟨l.toArray⟩ c
 have e':(!(Builtin.Str.occurrences ⟨l.toArray⟩ ⟨[c].toArray⟩ 0 (⟨l.toArray⟩:Str).length 1).isEmpty)=decide (c∈l):=by
  rw[show ([c].toArray)=#[c] from rfl,e]
 rw[e'];exact q
theorem ZfE:IxR X (fun x y H Q=>∃l i c,x=tx l∧y=.int i∧l.length≤sizeLine∧atI l i=some c∧Q (tx [c]) H):=by
 rintro value slice pins s σ H x y v u Q I rx ry ⟨l,i,c,rfl,rfl,hz,h,q⟩ hs
 exact Zka value slice pins s σ H _ _ v u Q I rx ry ⟨_,i,c,rfl,rfl,by rw[Zcp];exact hz,h,q⟩ hs
theorem Za1:SlR X (fun x lo hi H Q=>∃l,x=tx l∧l.length≤sizeLine∧Q (tx (cut l lo hi)) H):=by
 rintro pins s σ H x v vl vu lo hi sl Q I rx hs pl pu ⟨l,rfl,hz,q⟩
 obtain⟨t,rfl⟩:=rx
 refine⟨"str",_,F.slot_str_getitem.lookup,typeIs_str _ _ _,?_⟩
 have part:∀ {v:Value} {o:Option Int},IsPart v o→∃p:Option (Int×Tok),v=partValue p∧p.map (·.1)=o:=fun {v o} h=>by
  cases h with
  | none=>exact⟨none,rfl,rfl⟩
  | int i t=>exact⟨some (i,t),rfl,rfl⟩
 obtain⟨a,rfl,ea⟩:=part pl
 obtain⟨b,rfl,eb⟩:=part pu
 refine wpAny_getItem_str_slice (l:=a) (u:=b) (st:=none) hs rfl ?_
 have e:(if ((1:Int) == 1&&(Builtin.Str.strSliceIndices lo hi 1 (⟨l.toArray⟩:Str).length).length == (⟨l.toArray⟩:Str).length)=true then (⟨l.toArray⟩:Str) else ⟨((Builtin.Str.strSliceIndices lo hi 1 (⟨l.toArray⟩:Str).length).filterMap ((⟨l.toArray⟩:Str).cps[·]?)).toArray⟩)=⟨(cut l lo hi).toArray⟩:=Zg2 l lo hi
 unfold sliceMade slicePicked
 rw[ea,eb]
 refine post_val_or_str ?_
 refine⟨?_,fun t' k=>?_⟩
 ·show (if ((1:Int) == 1&&(Builtin.Str.strSliceIndices lo hi 1 (⟨l.toArray⟩:Str).length).length == (⟨l.toArray⟩:Str).length)=true then (⟨l.toArray⟩:Str) else ⟨((Builtin.Str.strSliceIndices lo hi 1 (⟨l.toArray⟩:Str).length).filterMap ((⟨l.toArray⟩:Str).cps[·]?)).toArray⟩).length≤sizeLine
  rw[e,Zcp]
  exact Nat.le_trans (ZbF _ _ _) hz
 ·refine⟨tx (cut l lo hi),H,I.tok _,⟨t',?_⟩,q⟩
  exact congrArg (fun z=>Value.str z t') e
def glue (sep:List Nat):List (List Nat)→List Nat
 | []=>[]
 | [x]=>x
 | x::r=>x++sep++glue sep r
theorem Zfe:∀ls:List (List Nat),glue [] ls=ls.flatten
 | []=>rfl
 | [x]=>by simp[glue]
 | x::y::r=>by
  show x++[]++glue [] (y::r)=_
  rw[Zfe (y::r)]
  simp
theorem Zgw (sep:List Nat):∀ls:List (List Nat),Str.join ⟨sep.toArray⟩ (ls.map fun l=>(⟨l.toArray⟩:Str))=⟨(glue sep ls).toArray⟩
 | []=>rfl
 | [x]=>rfl
 | x::y::r=>by
  have ih:=Zgw sep (y::r)
  show (⟨x.toArray⟩:Str)++⟨sep.toArray⟩++Str.join ⟨sep.toArray⟩ ((y::r).map fun l=>(⟨l.toArray⟩:Str))=_
  rw[ih]
  show (⟨x.toArray++sep.toArray++(glue sep (y::r)).toArray⟩:Str)=⟨(x++sep++glue sep (y::r)).toArray⟩
  simp
theorem Zb6:∀ {ls:List (List Nat)} {us:List Value},Vals (ls.map tx) us→StrsAre us (ls.map fun l=>(⟨l.toArray⟩:Str))
 | [],us,r=>by
  rw[List.map_nil]at r;cases r;exact .nil
 | l::ls,us,r=>by
  rw[List.map_cons]at r
  cases r with
  | cons r1 r2=>
   obtain⟨t,e⟩:=r1
   subst e
   exact .cons _ t (Zb6 r2)
theorem Zgn:MtM X "str.join" (fun x vs H Q=>∃sep a ls,x=tx sep∧vs=[.ref a]∧H a=some (.lst (ls.map tx))∧(ls.map List.length).sum+ls.length*sep.length≤16777216∧Q (tx (glue sep ls)) H):=by
 rintro pins s σ H x vs v us Q I rx rv ⟨sep,a,ls,rfl,rfl,ha,hz,q⟩
 obtain⟨t,rfl⟩:=rx
 obtain⟨u,rfl,ru⟩:=rv.one
 cases ru
 obtain⟨_,its,n,r,_,e⟩:=I.lstM ha
 refine join_list (PySem.IsL.isList e) (Zb6 (by simpa using r)) ?_ fun t' k=>?_
 ·have e1:((ls.map fun l=>(⟨l.toArray⟩:Str)).map (·.length)).sum=(ls.map List.length).sum:=by
   rw[List.map_map]
   congr 1
   all_goals (apply List.map_congr_left;intro l _;exact Zcp l)
  rw[e1,List.length_map,Zcp]
  exact hz
 ·refine⟨tx (glue sep ls),H,I.tok _,⟨t',?_⟩,q⟩
  have e2:Txt.join ⟨sep.toArray⟩ (ls.map fun l=>(⟨l.toArray⟩:Str))=⟨(glue sep ls).toArray⟩:=by
   show Builtin.Str.glued _ _=_
   rw[StrLaws.glued_eq_join,Zgw]
  rw[e2]
end
def Its (l:List Nat):It:=⟨fun i _=>i<l.length,fun i H x H'=>H'=H∧∃c,l[i]?=some c∧x=tx [c],fun i _=>l.length≤i⟩
theorem ZfR {P:Program} {w:World} {K:PySem.W.Frag} {tg:Expr} (l:List Nat) (t:Tok) (it:Addr) (ty:String) (hty:ty="str_ascii_iterator"∨ty="str_iterator"):Turn P w K tg (Its l) [it] it (fun i h=>h.IsStrIter it ty ⟨l.toArray⟩ t i) where
 mem:=by simp
 obj:=fun i h st b hb=>by
  have e:b=it:=by simpa using hb
  subst e
  obtain⟨o,e,c,d⟩:=st
  exact⟨o,e,fun v z=>by rw[d]at z;cases z⟩
 keep:=fun i h h' st k=>by
  obtain⟨o,e,r⟩:=st
  exact⟨o,k it (by simp) o e,r⟩
 item:=by
  intro X hP hw hK hc i pins s σ H E I hf st hg
  subst hP hw hK
  obtain⟨f0,f1,f2,f3,f4,f5⟩:=hf it (by simp)
  have hg:i<l.length:=hg
  have hx:(⟨l.toArray⟩:Str).cps[i]?=some l[i]:=by
   show l.toArray[i]?=some l[i]
   simp[hg]
  have fin:∀(h':Heap) (tk:Tok),h'.IsStrIter it ty ⟨l.toArray⟩ t (i+1)→Heap.SameBut it s.heap h' →
    ∃u,some (Value.str ⟨#[l[i]]⟩ s.toks)=some u∧wpAny (model X.prog X.w) X.A (letOwnedTupleGo tg (.ref it) u) (fun _ s2=>∃x H',Inv X pins σ H' s2∧RelV x u∧(Its l).yld i H x H'∧s2.heap.IsStrIter it ty ⟨l.toArray⟩ t (i+1)∧∀b∈[it],H' b=none) E { s with heap:=h',toks:=tk }:=fun h' tk st' sb=>by
   have I1:Inv X pins σ H { s with heap:=h',toks:=tk }:=I.turned (t':=tk) (fun b o hb e=>(sb.2 b hb).trans e) f0 f1 f3 f4 f5
   obtain⟨o,e,c,d⟩:=id st'
   refine⟨_,rfl,ZiK (s:={ s with heap:=h',toks:=tk }) e c d ?_ ⟨tx [l[i]],H,I1,⟨_,rfl⟩,⟨rfl,l[i],by simp[hg],rfl⟩,st',fun b hb=>(hf b hb).1⟩⟩
   rcases hty with rfl | rfl<;>decide
  rcases hty with rfl | rfl
  ·exact wpAny_pyNext_ascii_item st hx fun h' st' sb=>fin h' _ st' sb
  ·exact wpAny_pyNext_wide_item st hx fun h' st' sb=>fin h' _ st' sb
 done:=by
  intro X hP hw hK hc i pins s σ H E I hf st hg
  subst hP hw hK
  obtain⟨f0,f1,f2,f3,f4,f5⟩:=hf it (by simp)
  have hg:l.length≤i:=hg
  have hx:(⟨l.toArray⟩:Str).cps[i]?=none:=by
   show l.toArray[i]?=none
   simp[hg]
  rcases hty with rfl | rfl
  ·exact wpAny_pyNext_ascii_end (I.ok.hd hc) st hx fun h' eb=>⟨rfl,I.turned (t':=s.toks) (fun b o hb e=>eb b o hb e) f0 f1 f3 f4 f5⟩
  ·exact wpAny_pyNext_wide_end (I.ok.hd hc) st hx fun h' eb=>⟨rfl,I.turned (t':=s.toks) (fun b o hb e=>eb b o hb e) f0 f1 f3 f4 f5⟩
 self:=by
  intro A i s Q E st h
  rcases hty with rfl | rfl
  ·exact wpAny_pyIter_striter_ascii st h
  ·exact wpAny_pyIter_striter_wide st h
section
variable {X:Cx}{tg:Expr}
def Zke (tl:TE):TI:=fun σ H R=>tl σ H fun x H1=>∃l,x=tx l∧R (Its l) H1
theorem ZeC {l:Expr}{tl:TE}(hl:PE X l tl):PI X tg l (Zke tl):=by
 intro pins s σ H R I h
 refine thn (hl pins s σ H _ I h) fun v s1 ⟨x,H1,I1,r1,q1⟩=>?_
 obtain⟨l,rfl,q⟩:=q1
 obtain⟨t,rfl⟩:=r1
 have fin:∀ty,(ty="str_ascii_iterator"∨ty="str_iterator")→PIE X pins σ tg R (.ref s1.heap.objs.size) { s1 with heap:=s1.heap.push { cls:=.type ty,data:=.fields #[.str ⟨l.toArray⟩ t,.int 0 0] } }:=fun ty hty=>by
  refine⟨s1.heap.objs.size,[s1.heap.objs.size],_,_,H1,rfl,I1.kept (t':=s1.toks) fun b o e=>Heap.get?_push_of_some _ e,ZfR l t _ ty hty,⟨_,Heap.get?_push_size _ rfl,rfl,rfl⟩,fun b hb=>?_,q⟩
  have e:b=s1.heap.objs.size:=by simpa using hb
  subst e
  exact I1.fpOk (Nat.le_refl _) (I1.hok.fresh (Nat.le_refl _))
 cases ha:(⟨l.toArray⟩:Str).cps.all (· < 128)
 ·exact wpAny_pyIter_wide ha (fin _ (.inr rfl))
 ·exact wpAny_pyIter_ascii ha (fin _ (.inl rfl))
end
theorem ZhA {l:List Nat}{g:TG}{tb:TS}{D:Ends}{σ:St}{H:Hp}(Pv:Nat→St→Hp→Prop)(h0:Pv 0 σ H)
  (hs:∀i c σ H,l[i]?=some c→Pv i σ H→g (tx [c]) σ H fun σ2 H2=>tb { D with nx:=Pv (i+1),ct:=Pv (i+1),bk:=D.nx } σ2 H2) (hd:∀σ H,Pv l.length σ H→D.nx σ H):
  ∃W:Nat→Nat→St→Hp→Prop,(∃m,W 0 m σ H)∧∀i m σ H,W i m σ H →
   ((Its l).stop i H∧D.nx σ H)∨((Its l).go i H∧∃N:St→Hp→Prop,(∀σ' H',N σ' H'→∃m',m'<m∧W (i+1) m' σ' H')∧∀x H',(Its l).yld i H x H'→g x σ H' fun σ2 H2=>tb { D with nx:=N,ct:=N,bk:=D.nx } σ2 H2):=by
 refine⟨fun i m σ H=>m=l.length-i∧i≤l.length∧Pv i σ H,⟨l.length,by simp,Nat.zero_le _,h0⟩,?_⟩
 rintro i m σ H ⟨rfl,hi,p⟩
 by_cases hlt:i<l.length
 ·refine .inr ⟨hlt,Pv (i+1),fun σ' H' p'=>⟨l.length-(i+1),by omega,rfl,hlt,p'⟩,fun x H' y=>?_⟩
  obtain⟨e,c,hc,y⟩:=y
  subst e y
  exact hs i c σ _ hc p
 ·have e:i=l.length:=by omega
  subst e
  exact .inl ⟨Nat.le_refl _,hd σ H p⟩
inductive DT where
 | f (v:V)
 | l (xs:List DT)
 | t (xs:List DT)
section
variable (K:PySem.W.Frag)(H:Hp)
mutual
def DatOk:DT→V→Prop
 | .f w,v=>v=w∧Za7 w=true
 | .l ds,v=>∃a vs,v=.ref a∧SqL K H a vs∧DatsOk ds vs
 | .t ds,v=>∃a vs,v=.ref a∧SqT K H a vs∧DatsOk ds vs
def DatsOk:List DT→List V→Prop
 | [],vs=>vs=[]
 | d::ds,vs=>∃v r,vs=v::r∧DatOk d v∧DatsOk ds r
end
end
mutual
def deq:DT→DT→Bool
 | .f v,.f w=>eqV v w
 | .l xs,.l ys=>deqs xs ys
 | .t xs,.t ys=>deqs xs ys
 | .f _,.l _=>false
 | .f _,.t _=>false
 | .l _,.f _=>false
 | .t _,.f _=>false
 | .l _,.t _=>false
 | .t _,.l _=>false
def deqs:List DT→List DT→Bool
 | [],[]=>true
 | x::xs,y::ys=>deq x y&&deqs xs ys
 | [],_::_=>false
 | _::_,[]=>false
end
mutual
def dep:DT→Nat
 | .f _=>0
 | .l xs=>deps xs+1
 | .t xs=>deps xs+1
def deps:List DT→Nat
 | []=>0
 | x::xs=>max (dep x) (deps xs)
end
theorem Zfh {v:V}(h:Za7 v=true):eqV v v=true:=by
 cases v<;>first | rfl | (simp[eqV];done) | exact absurd (show false=true from h) Bool.false_ne_true
theorem DatsOk.length {K:PySem.W.Frag}{H:Hp}:∀ {ds:List DT} {vs:List V},DatsOk K H ds vs→vs.length=ds.length
 | [],vs,h=>by
  unfold DatsOk at h;subst h;rfl
 | d::ds,vs,h=>by
  unfold DatsOk at h
  obtain⟨v,r,rfl,_,hr⟩:=h
  rw[List.length_cons,List.length_cons,DatsOk.length hr]
def ZaL (xs ys:List DT)(j:Nat):Bool:=match xs[j]?,ys[j]? with
 | some x,some y=>deq x y
 | _,_=>false
theorem ZeL:∀xs ys:List DT,deqs xs ys=((List.range (min xs.length ys.length)).all (ZaL xs ys)&&xs.length == ys.length)
 | [],[]=>by simp[deqs]
 | [],_::_=>by simp[deqs]
 | _::_,[]=>by simp[deqs]
 | x::xs,y::ys=>by
  have e:min (x::xs).length (y::ys).length=min xs.length ys.length+1:=by simp only[List.length_cons];omega
  have e2:∀j,ZaL (x::xs) (y::ys) (j+1)=ZaL xs ys j:=fun j=>by simp[ZaL]
  have e3:ZaL (x::xs) (y::ys) 0=deq x y:=by simp[ZaL]
  rw[deqs,ZeL xs ys,e,List.range_succ_eq_map,List.all_cons,e3,List.all_map]
  have e4:((fun j=>ZaL (x::xs) (y::ys) j) ∘ Nat.succ)=ZaL xs ys:=by funext j;exact e2 j
  have e5:(ZaL (x::xs) (y::ys) ∘ Nat.succ)=ZaL xs ys:=e4
  rw[e5,Bool.and_assoc]
  simp
mutual
theorem DatOk.uniq {K:PySem.W.Frag}{X:Cx}{pins:List (Addr×Obj)}{σ:St}{H:Hp}{s:Shared}(I:Inv X pins σ H s):∀(d e:DT) (v:V),DatOk X.K H d v→DatOk X.K H e v→deq d e=true
 | .f w,.f u,v,h1,h2=>by
  unfold DatOk at h1 h2
  obtain⟨rfl,hf⟩:=h1
  obtain⟨e,_⟩:=h2
  subst e
  unfold deq
  exact Zfh hf
 | .f w,.l ys,v,h1,h2=>by
  unfold DatOk at h1 h2
  obtain⟨rfl,hf⟩:=h1
  obtain⟨a,vs,rfl,_⟩:=h2
  exact absurd (show false=true from hf) Bool.false_ne_true
 | .f w,.t ys,v,h1,h2=>by
  unfold DatOk at h1 h2
  obtain⟨rfl,hf⟩:=h1
  obtain⟨a,vs,rfl,_⟩:=h2
  exact absurd (show false=true from hf) Bool.false_ne_true
 | .l xs,.f w,v,h1,h2=>by
  unfold DatOk at h1 h2
  obtain⟨rfl,hf⟩:=h2
  obtain⟨a,vs,rfl,_⟩:=h1
  exact absurd (show false=true from hf) Bool.false_ne_true
 | .t xs,.f w,v,h1,h2=>by
  unfold DatOk at h1 h2
  obtain⟨rfl,hf⟩:=h2
  obtain⟨a,vs,rfl,_⟩:=h1
  exact absurd (show false=true from hf) Bool.false_ne_true
 | .l xs,.l ys,v,h1,h2=>by
  unfold DatOk at h1 h2
  obtain⟨a,vs,rfl,q1,r1⟩:=h1
  obtain⟨b,ws,e,q2,r2⟩:=h2
  cases e
  have:=I.list_inj q1 q2
  subst this
  unfold deq
  exact DatsOk.uniq (K:=K) I xs ys vs r1 r2
 | .t xs,.t ys,v,h1,h2=>by
  unfold DatOk at h1 h2
  obtain⟨a,vs,rfl,q1,r1⟩:=h1
  obtain⟨b,ws,e,q2,r2⟩:=h2
  cases e
  have:=I.tuple_inj q1 q2
  subst this
  unfold deq
  exact DatsOk.uniq (K:=K) I xs ys vs r1 r2
 | .l xs,.t ys,v,h1,h2=>by
  unfold DatOk at h1 h2
  obtain⟨a,vs,rfl,q1,r1⟩:=h1
  obtain⟨b,ws,e,q2,r2⟩:=h2
  cases e
  obtain⟨_,_,⟨o,n,e1,c1,_⟩,_⟩:=I.list q1
  obtain⟨_,_,⟨o',e2,c2,_⟩,_⟩:=I.tuple q2
  rw[e1]at e2;cases e2
  rw[c1]at c2;exact absurd c2 (by simp)
 | .t xs,.l ys,v,h1,h2=>by
  unfold DatOk at h1 h2
  obtain⟨a,vs,rfl,q1,r1⟩:=h1
  obtain⟨b,ws,e,q2,r2⟩:=h2
  cases e
  obtain⟨_,_,⟨o',e2,c2,_⟩,_⟩:=I.tuple q1
  obtain⟨_,_,⟨o,n,e1,c1,_⟩,_⟩:=I.list q2
  rw[e1]at e2;cases e2
  rw[c1]at c2;exact absurd c2 (by simp)
theorem DatsOk.uniq {K:PySem.W.Frag}{X:Cx}{pins:List (Addr×Obj)}{σ:St}{H:Hp}{s:Shared}(I:Inv X pins σ H s):∀(xs ys:List DT) (vs:List V),DatsOk X.K H xs vs→DatsOk X.K H ys vs→deqs xs ys=true
 | [],[],vs,h1,h2=>by unfold deqs;rfl
 | [],y::ys,vs,h1,h2=>by
  unfold DatsOk at h1 h2
  subst h1
  obtain⟨_,_,e,_⟩:=h2
  cases e
 | x::xs,[],vs,h1,h2=>by
  unfold DatsOk at h1 h2
  subst h2
  obtain⟨_,_,e,_⟩:=h1
  cases e
 | x::xs,y::ys,vs,h1,h2=>by
  unfold DatsOk at h1 h2
  obtain⟨v,r,rfl,a1,a2⟩:=h1
  obtain⟨v',r',e,b1,b2⟩:=h2
  cases e
  unfold deqs
  rw[DatOk.uniq (K:=K) I x y v a1 b1,DatsOk.uniq (K:=K) I xs ys r a2 b2]
  rfl
end
section
variable {X:Cx}{pins:List (Addr×Obj)}{σ:St}{H:Hp}{s:Shared}
open SeqAt
theorem ZdB {A:Around}{w:V}{u:Value}{l:Addr}{items:Array Value}(hf:Za7 w=true)(r:RelV w u)(hl:s.heap.IsList l items)(hu:A.units<cLine):EqAt A s u (.ref l) false∧EqAt A s (.ref l) u false∧RcAt A s u (.ref l) false∧RcAt A s (.ref l) u false∧RcNeAt A s u (.ref l) true∧RcNeAt A s (.ref l) u true:=by
 cases w with
 | non=>cases r;exact⟨.none_list hl hu,.list_none hl hu,.none_list hl hu,.list_none hl hu,.none_list hl hu,.list_none hl hu⟩
 | bl b=>cases r;exact⟨.bool_list b hl hu,.list_bool b hl hu,.bool_list b hl hu,.list_bool b hl hu,.bool_list b hl hu,.list_bool b hl hu⟩
 | int i=>obtain⟨t,rfl⟩:=r;exact⟨.int_list i t hl hu,.list_int i t hl hu,.int_list i t hl hu,.list_int i t hl hu,.int_list i t hl hu,.list_int i t hl hu⟩
 | str i=>obtain⟨t,rfl⟩:=r;exact⟨.str_list i t hl hu,.list_str i t hl hu,.str_list i t hl hu,.list_str i t hl hu,.str_list i t hl hu,.list_str i t hl hu⟩
 | _=>exact absurd (show false=true from hf) Bool.false_ne_true
theorem ZdA {A:Around}{w:V}{u:Value}{l:Addr}{items:Array Value}(hf:Za7 w=true)(r:RelV w u)(hl:s.heap.IsTuple l items)(hu:A.units<cLine):EqAt A s u (.ref l) false∧EqAt A s (.ref l) u false∧RcAt A s u (.ref l) false∧RcAt A s (.ref l) u false∧RcNeAt A s u (.ref l) true∧RcNeAt A s (.ref l) u true:=by
 cases w with
 | non=>cases r;exact⟨.none_tuple hl hu,.tuple_none hl hu,.none_tuple hl hu,.tuple_none hl hu,.none_tuple hl hu,.tuple_none hl hu⟩
 | bl b=>cases r;exact⟨.bool_tuple b hl hu,.tuple_bool b hl hu,.bool_tuple b hl hu,.tuple_bool b hl hu,.bool_tuple b hl hu,.tuple_bool b hl hu⟩
 | int i=>obtain⟨t,rfl⟩:=r;exact⟨.int_tuple i t hl hu,.tuple_int i t hl hu,.int_tuple i t hl hu,.tuple_int i t hl hu,.int_tuple i t hl hu,.tuple_int i t hl hu⟩
 | str i=>obtain⟨t,rfl⟩:=r;exact⟨.str_tuple i t hl hu,.tuple_str i t hl hu,.str_tuple i t hl hu,.tuple_str i t hl hu,.str_tuple i t hl hu,.tuple_str i t hl hu⟩
 | _=>exact absurd (show false=true from hf) Bool.false_ne_true
theorem Zjz {A:Around}{l b:Addr}{ps qs:List Value}{xs ys:List DT}(hl:s.heap.IsList l ps.toArray)(hb:s.heap.IsList b qs.toArray)(n1:ps.length=xs.length)(n2:qs.length=ys.length)(hu:A.units<cLine)
  (he:∀j (h1:j<ps.length) (h2:j<qs.length),EqAt A.in1 s ps[j] qs[j] (ZaL xs ys j)):RcAt A s (.ref l) (.ref b) (deqs xs ys)∧RcNeAt A s (.ref l) (.ref b) (!deqs xs ys):=by
 rw[ZeL]
 by_cases hz:ps.length=qs.length
 ·have hsz:ps.toArray.size=qs.toArray.size:=by rw[List.size_toArray,List.size_toArray];exact hz
  have e1:((List.range (min xs.length ys.length)).all (ZaL xs ys)&&xs.length == ys.length)=(List.range ps.toArray.size).all (ZaL xs ys):=by
   have:xs.length=ys.length:=by omega
   rw[List.size_toArray,n1,←this,Nat.min_self]
   simp
  rw[e1]
  exact⟨RcAt.lists hl hb hsz hu fun j j1 j2=>by simpa using he j (by simpa using j1) (by simpa using j2),RcNeAt.lists hl hb hsz hu fun j j1 j2=>by simpa using he j (by simpa using j1) (by simpa using j2)⟩
 ·have e1:((List.range (min xs.length ys.length)).all (ZaL xs ys)&&xs.length == ys.length)=false:=by
   have:xs.length≠ys.length:=by omega
   simp[this]
  rw[e1]
  have hsz:(ps.toArray.size != qs.toArray.size)=true:=by rw[List.size_toArray,List.size_toArray];simpa using hz
  exact⟨RcAt.lists_lengths hl hb hsz hu,RcNeAt.lists_lengths hl hb hsz hu⟩
theorem Zjy {A:Around}{l b:Addr}{ps qs:List Value}{xs ys:List DT}(hl:s.heap.IsTuple l ps.toArray)(hb:s.heap.IsTuple b qs.toArray)(n1:ps.length=xs.length)(n2:qs.length=ys.length)(hu:A.units<cLine)
  (he:∀j (h1:j<ps.length) (h2:j<qs.length),EqAt A.in1 s ps[j] qs[j] (ZaL xs ys j)):RcAt A s (.ref l) (.ref b) (deqs xs ys)∧RcNeAt A s (.ref l) (.ref b) (!deqs xs ys):=by
 have e1:deqs xs ys=((List.range (min ps.toArray.size qs.toArray.size)).all (ZaL xs ys)&&ps.toArray.size == qs.toArray.size):=by
  rw[ZeL,List.size_toArray,List.size_toArray,n1,n2]
 rw[e1]
 exact⟨RcAt.tuples hl hb hu fun j j1 j2=>by simpa using he j (by simpa using j1) (by simpa using j2),RcNeAt.tuples hl hb hu fun j j1 j2=>by simpa using he j (by simpa using j1) (by simpa using j2)⟩
mutual
theorem Zkj (I:Inv X pins σ H s):∀(d e:DT) (A:Around) (x y:V) (u v:Value),DatOk X.K H d x→DatOk X.K H e y→RelV x u→RelV y v→A.units+dep d<cLine→EqAt A s u v (deq d e)
 | .f w,.f w',A,x,y,u,v,h1,h2,ru,rv,hu=>by
  unfold DatOk at h1 h2
  obtain⟨rfl,f1⟩:=h1
  obtain⟨rfl,f2⟩:=h2
  unfold deq
  exact Zh3 ru rv f1 f2
 | .f w,.l ys,A,x,y,u,v,h1,h2,ru,rv,hu=>by
  unfold DatOk at h1 h2
  obtain⟨rfl,f1⟩:=h1
  obtain⟨a,vs,rfl,q,_⟩:=h2
  cases rv
  obtain⟨its,_,p,_⟩:=I.list q
  unfold deq
  exact(ZdB f1 ru p.isList (by unfold dep at hu;omega)).1
 | .f w,.t ys,A,x,y,u,v,h1,h2,ru,rv,hu=>by
  unfold DatOk at h1 h2
  obtain⟨rfl,f1⟩:=h1
  obtain⟨a,vs,rfl,q,_⟩:=h2
  cases rv
  obtain⟨its,_,p,_⟩:=I.tuple q
  unfold deq
  exact(ZdA f1 ru (show s.heap.IsTuple a its.toArray from p) (by unfold dep at hu;omega)).1
 | .l xs,.f w,A,x,y,u,v,h1,h2,ru,rv,hu=>by
  unfold DatOk at h1 h2
  obtain⟨rfl,f1⟩:=h2
  obtain⟨a,vs,rfl,q,_⟩:=h1
  cases ru
  obtain⟨its,_,p,_⟩:=I.list q
  unfold deq
  exact(ZdB f1 rv p.isList (by omega)).2.1
 | .t xs,.f w,A,x,y,u,v,h1,h2,ru,rv,hu=>by
  unfold DatOk at h1 h2
  obtain⟨rfl,f1⟩:=h2
  obtain⟨a,vs,rfl,q,_⟩:=h1
  cases ru
  obtain⟨its,_,p,_⟩:=I.tuple q
  unfold deq
  exact(ZdA f1 rv (show s.heap.IsTuple a its.toArray from p) (by omega)).2.1
 | .l xs,.t ys,A,x,y,u,v,h1,h2,ru,rv,hu=>by
  unfold DatOk at h1 h2
  obtain⟨a,vs,rfl,q,_⟩:=h1
  obtain⟨b,ws,rfl,q',_⟩:=h2
  cases ru
  cases rv
  obtain⟨its,_,p,_⟩:=I.list q
  obtain⟨its',_,p',_⟩:=I.tuple q'
  unfold deq
  exact EqAt.list_tuple p.isList (show s.heap.IsTuple b its'.toArray from p') (by omega)
 | .t xs,.l ys,A,x,y,u,v,h1,h2,ru,rv,hu=>by
  unfold DatOk at h1 h2
  obtain⟨a,vs,rfl,q,_⟩:=h1
  obtain⟨b,ws,rfl,q',_⟩:=h2
  cases ru
  cases rv
  obtain⟨its,_,p,_⟩:=I.tuple q
  obtain⟨its',_,p',_⟩:=I.list q'
  unfold deq
  exact EqAt.tuple_list (show s.heap.IsTuple a its.toArray from p) p'.isList (by omega)
 | .l xs,.l ys,A,x,y,u,v,h1,h2,ru,rv,hu=>by
  by_cases hxy:x=y
  ·subst hxy
   rw[DatOk.uniq (K:=X.K) I (.l xs) (.l ys) x h1 h2]
   unfold DatOk at h1
   obtain⟨a,vs,rfl,_⟩:=h1
   cases ru
   cases rv
   exact EqAt.same _
  ·unfold DatOk at h1 h2
   obtain⟨a,vs,rfl,q,d1⟩:=h1
   obtain⟨b,ws,rfl,q',d2⟩:=h2
   cases ru
   cases rv
   obtain⟨its,r,p,_⟩:=I.list q
   obtain⟨its',r',p',_⟩:=I.list q'
   unfold deq
   unfold dep at hu
   refine EqAt.of_refs (fun e=>hxy (by rw[e])) (Zjz p.isList p'.isList (by rw[←r.length,d1.length]) (by rw[←r'.length,d2.length]) (by omega) fun j j1 j2=>?_).1
   exact ZcS I xs ys A.in1 vs ws its its' d1 d2 r r' (by show A.units+1+_<_;omega) j j1 j2
 | .t xs,.t ys,A,x,y,u,v,h1,h2,ru,rv,hu=>by
  by_cases hxy:x=y
  ·subst hxy
   rw[DatOk.uniq (K:=X.K) I (.t xs) (.t ys) x h1 h2]
   unfold DatOk at h1
   obtain⟨a,vs,rfl,_⟩:=h1
   cases ru
   cases rv
   exact EqAt.same _
  ·unfold DatOk at h1 h2
   obtain⟨a,vs,rfl,q,d1⟩:=h1
   obtain⟨b,ws,rfl,q',d2⟩:=h2
   cases ru
   cases rv
   obtain⟨its,r,p,_⟩:=I.tuple q
   obtain⟨its',r',p',_⟩:=I.tuple q'
   unfold deq
   unfold dep at hu
   refine EqAt.of_refs (fun e=>hxy (by rw[e])) (Zjy (show s.heap.IsTuple a its.toArray from p) (show s.heap.IsTuple b its'.toArray from p') (by rw[←r.length,d1.length]) (by rw[←r'.length,d2.length]) (by omega) fun j j1 j2=>?_).1
   exact ZcS I xs ys A.in1 vs ws its its' d1 d2 r r' (by show A.units+1+_<_;omega) j j1 j2
theorem ZcS (I:Inv X pins σ H s):∀(xs ys:List DT) (A:Around) (vs ws:List V) (ps qs:List Value),DatsOk X.K H xs vs→DatsOk X.K H ys ws→Vals vs ps→Vals ws qs→A.units+deps xs<cLine →
  ∀(j:Nat) (h1:j<ps.length) (h2:j<qs.length),EqAt A s ps[j] qs[j] (ZaL xs ys j)
 | [],ys,A,vs,ws,ps,qs,d1,d2,r1,r2,hu,j,h1,h2=>by
  unfold DatsOk at d1
  subst d1
  cases r1
  exact absurd h1 (Nat.not_lt_zero _)
 | x::xs,[],A,vs,ws,ps,qs,d1,d2,r1,r2,hu,j,h1,h2=>by
  unfold DatsOk at d2
  subst d2
  cases r2
  exact absurd h2 (Nat.not_lt_zero _)
 | x::xs,y::ys,A,vs,ws,ps,qs,d1,d2,r1,r2,hu,j,h1,h2=>by
  unfold DatsOk at d1 d2
  obtain⟨v,vr,rfl,a1,a2⟩:=d1
  obtain⟨w,wr,rfl,b1,b2⟩:=d2
  unfold deps at hu
  cases r1 with
  | cons ru rus=>
   cases r2 with
   | cons rv rvs=>
    cases j with
    | zero=>
     have:=Zkj I x y A v w _ _ a1 b1 ru rv (by omega)
     simpa [ZaL] using this
    | succ j=>
     have:=ZcS I xs ys A vr wr _ _ a2 b2 rus rvs (by omega) j (Nat.lt_of_succ_lt_succ h1) (Nat.lt_of_succ_lt_succ h2)
     simpa [ZaL] using this
end
theorem Zjx (I:Inv X pins σ H s){d e:DT}{A:Around}{x y:V}{u v:Value}(h1:DatOk X.K H d x)(h2:DatOk X.K H e y)(ru:RelV x u)(rv:RelV y v)(hu:A.units+dep d<cLine)(hn:¬(Za7 x=true∧Za7 y=true)):
  RcAt A s u v (deq d e)∧RcNeAt A s u v (!deq d e):=by
 cases d with
 | f w=>
  unfold DatOk at h1
  obtain⟨rfl,f1⟩:=h1
  cases e with
  | f w'=>
   unfold DatOk at h2
   obtain⟨rfl,f2⟩:=h2
   exact absurd ⟨f1,f2⟩ hn
  | l ys=>
   unfold DatOk at h2
   obtain⟨a,vs,rfl,q,_⟩:=h2
   cases rv
   obtain⟨its,_,p,_⟩:=I.list q
   have z:=ZdB (A:=A) f1 ru p.isList (by omega)
   unfold deq
   exact⟨z.2.2.1,z.2.2.2.2.1⟩
  | t ys=>
   unfold DatOk at h2
   obtain⟨a,vs,rfl,q,_⟩:=h2
   cases rv
   obtain⟨its,_,p,_⟩:=I.tuple q
   have z:=ZdA (A:=A) f1 ru (show s.heap.IsTuple a its.toArray from p) (by omega)
   unfold deq
   exact⟨z.2.2.1,z.2.2.2.2.1⟩
 | l xs=>
  unfold DatOk at h1
  obtain⟨a,vs,rfl,q,d1⟩:=h1
  cases ru
  obtain⟨its,r,p,_⟩:=I.list q
  cases e with
  | f w=>
   unfold DatOk at h2
   obtain⟨rfl,f1⟩:=h2
   have z:=ZdB (A:=A) f1 rv p.isList (by omega)
   unfold deq
   exact⟨z.2.2.2.1,z.2.2.2.2.2⟩
  | l ys=>
   unfold DatOk at h2
   obtain⟨b,ws,rfl,q',d2⟩:=h2
   cases rv
   obtain⟨its',r',p',_⟩:=I.list q'
   unfold deq
   unfold dep at hu
   exact Zjz p.isList p'.isList (by rw[←r.length,d1.length]) (by rw[←r'.length,d2.length]) (by omega) fun j j1 j2=>ZcS I xs ys A.in1 vs ws its its' d1 d2 r r' (by show A.units+1+_<_;omega) j j1 j2
  | t ys=>
   unfold DatOk at h2
   obtain⟨b,ws,rfl,q',d2⟩:=h2
   cases rv
   obtain⟨its',r',p',_⟩:=I.tuple q'
   unfold deq
   exact⟨RcAt.list_tuple p.isList (show s.heap.IsTuple b its'.toArray from p') (by omega),RcNeAt.list_tuple p.isList (show s.heap.IsTuple b its'.toArray from p') (by omega)⟩
 | t xs=>
  unfold DatOk at h1
  obtain⟨a,vs,rfl,q,d1⟩:=h1
  cases ru
  obtain⟨its,r,p,_⟩:=I.tuple q
  cases e with
  | f w=>
   unfold DatOk at h2
   obtain⟨rfl,f1⟩:=h2
   have z:=ZdA (A:=A) f1 rv (show s.heap.IsTuple a its.toArray from p) (by omega)
   unfold deq
   exact⟨z.2.2.2.1,z.2.2.2.2.2⟩
  | t ys=>
   unfold DatOk at h2
   obtain⟨b,ws,rfl,q',d2⟩:=h2
   cases rv
   obtain⟨its',r',p',_⟩:=I.tuple q'
   unfold deq
   unfold dep at hu
   exact Zjy (show s.heap.IsTuple a its.toArray from p) (show s.heap.IsTuple b its'.toArray from p') (by rw[←r.length,d1.length]) (by rw[←r'.length,d2.length]) (by omega) fun j j1 j2=>ZcS I xs ys A.in1 vs ws its its' d1 d2 r r' (by show A.units+1+_<_;omega) j j1 j2
  | l ys=>
   unfold DatOk at h2
   obtain⟨b,ws,rfl,q',d2⟩:=h2
   cases rv
   obtain⟨its',r',p',_⟩:=I.list q'
   unfold deq
   exact⟨RcAt.tuple_list (show s.heap.IsTuple a its.toArray from p) p'.isList (by omega),RcNeAt.tuple_list (show s.heap.IsTuple a its.toArray from p) p'.isList (by omega)⟩
end
def rEqD (K:PySem.W.Frag)(neg:Bool):R2:=fun x y H Q=>(scal x y=true∧Q (.bl (if neg then !decide (x=y) else decide (x=y))) H) ∨
 ∃d e,DatOk K H d x∧DatOk K H e y∧¬(Za7 x=true∧Za7 y=true)∧dep d≤60∧Q (.bl (if neg then !deq d e else deq d e)) H
theorem ZjO {X:Cx}(hu:X.A.units+64<cLine):OpR X (compareOp .Eq) (rEqD X.K false):=by
 intro pins s σ H x y v u Q I rx ry h
 rcases h with⟨h1,q⟩|⟨d,e,h1,h2,hn,hd,q⟩
 ·exact Zlp pins s σ H x y v u Q I rx ry ⟨h1,q⟩
 ·exact(Zjx I h1 h2 rx ry (by omega) hn).1 _ _ _ _ ⟨.bl _,H,I,rfl,q⟩
theorem ZjL {X:Cx}(hu:X.A.units+64<cLine):OpR X (compareOp .NotEq) (rEqD X.K true):=by
 intro pins s σ H x y v u Q I rx ry h
 rcases h with⟨h1,q⟩|⟨d,e,h1,h2,hn,hd,q⟩
 ·exact Zln pins s σ H x y v u Q I rx ry ⟨h1,q⟩
 ·exact(Zjx I h1 h2 rx ry (by omega) hn).2 _ _ _ _ ⟨.bl _,H,I,rfl,q⟩
theorem Same.seqT {K:PySem.W.Frag}{H H':Hp}{a:Addr}{xs:List V}(e:Same H H')(h:SqT K H a xs):SqT K H' a xs:=by
 rcases h with (h | ⟨o,h⟩) | h
 ·exact .inl (.inl (e _ _ h))
 ·exact .inl (.inr ⟨o,e _ _ h⟩)
 ·exact .inr h
theorem ZdF {K:PySem.W.Frag}{H:Hp}:∀ {vs:List V},vs.all Za7=true→DatsOk K H (vs.map DT.f) vs
 | [],_=>by unfold DatsOk;rfl
 | v::r,h=>by
  rw[List.all_cons,Bool.and_eq_true]at h
  rw[List.map_cons]
  unfold DatsOk
  exact⟨v,r,rfl,by unfold DatOk;exact⟨rfl,h.1⟩,ZdF h.2⟩
theorem Zeg (vs:List V):deps (vs.map DT.f)=0:=by
 induction vs with
 | nil=>rfl
 | cons v r ih=>rw[List.map_cons];unfold deps;rw[ih];rfl
theorem Zh1 (a b:List Nat):eqV (tx a) (tx b)=decide (tx a=tx b):=by
 rw[Zcg]
 show ((⟨a.toArray⟩:Str) == ⟨b.toArray⟩)=_
 by_cases h:a=b
 ·subst h;simp
 ·rw[decide_eq_false h]
  exact beq_eq_false_iff_ne.mpr fun z=>h (ZbQ.mp (congrArg V.str z))
theorem datL {K:PySem.W.Frag}{H:Hp}{a:Addr}{vs:List V}(h:SqL K H a vs)(hf:vs.all Za7=true):DatOk K H (.l (vs.map DT.f)) (.ref a):=by
 unfold DatOk
 exact⟨a,vs,rfl,h,ZdF hf⟩
theorem datT {K:PySem.W.Frag}{H:Hp}{a:Addr}{vs:List V}(h:SqT K H a vs)(hf:vs.all Za7=true):DatOk K H (.t (vs.map DT.f)) (.ref a):=by
 unfold DatOk
 exact⟨a,vs,rfl,h,ZdF hf⟩
end L2
namespace L2
open PySem PySem.Spec PyProof.Rows
open PySem.W (Frag findIn specialIn typeIn mroIn clsIn InstAt Looks)
def Zev:List Value:=[.type "ValueError",.type "Exception",.type "BaseException",.type "object"]
def ZhY:Value→Bool
 | .ref _=>true
 | _=>false
def xmro (l:List Value):Bool:=l.dropWhile ZhY == Zev
theorem ZeR {P:List Value→Prop}(h0:P Zev)(h1:∀c r,P r→P (.ref c::r)):∀l:List Value,xmro l=true→P l
 | [],e=>by simp[xmro,Zev]at e
 | v::r,e=>by
  cases hv:ZhY v with
  | true=>
   cases v with
   | ref c=>
    refine h1 c r (ZeR h0 h1 r ?_)
    unfold xmro at e ⊢
    rw[List.dropWhile_cons,if_pos hv]at e
    exact e
   | _=>cases hv
  | false=>
   unfold xmro at e
   rw[List.dropWhile_cons,if_neg (by rw[hv];exact Bool.false_ne_true)]at e
   rw[show (v::r)=Zev by simpa using e]
   exact h0
theorem Zbz {n:String}{b:Bool}(h:Zev.contains (.type n)=b){l:List Value}(e:xmro l=true):l.contains (.type n)=b:=
 ZeR (P:=fun l=>l.contains (.type n)=b) h (fun c r h=>by rw[List.contains_cons,h];rfl) l e
structure Xc (K:Frag)(C:Addr):Prop where
 ga:findIn K (.ref C) "__getattribute__"=some (some (.builtin "BaseException.__getattribute__"))
 gr:findIn K (.ref C) "__getattr__"=some none
 sa:findIn K (.ref C) "__setattr__"=some (some (.builtin "object.__setattr__"))
 hd:PySem.W.hasDictIn K C=true
 mr:(clsIn K C).any (fun cd=>xmro cd.mro)=true
theorem Zh7 {l:List Value}(e:xmro l=true):l.isEmpty=false:=by
 cases l with
 | nil=>simp[xmro,Zev]at e
 | cons _ _=>rfl
theorem Xc.base {K:Frag}{C:Addr}(c:Xc K C){n:String}{b:Bool}(h:Zev.contains (.type n)=b):mroIn K C (.type n)=some b:=by
 obtain⟨cd,hc,hm⟩:=PySem.W.any_some c.mr
 unfold PySem.W.mroIn
 rw[hc,Option.bind_some,if_neg (by rw[Zh7 hm];exact Bool.false_ne_true),Zbz h hm]
def xo (a C:Addr)(d:Option Addr):HO:=.ext fun h=>∃(o:Obj) (t:Addr),h.get? a=some o∧o.cls=.ref C∧o.dict=d∧o.data=.fields #[.ref t,.none,.none,.none,.bool false,.none]
def xdO (d:Addr)(fs:List (Str×V)):HO:=.ext fun h=>fs.length≤1000∧∃mA,h.Ns1 d mA∧(∀f,RelO (fs.lookup f) (mA f))∧PySem.Within mA (fs.map (·.1))
inductive XAt (H:Hp) (e C:Addr):List (Str×V)→Prop where
 | bare:H e=some (xo e C none)→XAt H e C []
 | full {d:Addr} {fs:List (Str×V)}:H e=some (xo e C (some d))→H d=some (xdO d fs)→d≠e→XAt H e C fs
theorem Zi8 {H:Hp}{a:Addr}{o:HO}(h:H a=some o):upd H a o=H:=by
 funext b
 unfold upd
 by_cases hb:b=a
 ·rw[if_pos hb,hb,h]
 ·rw[if_neg hb]
section
variable {X:Cx}{pins:List (Addr×Obj)}{σ:St}{H:Hp}{s:Shared}{e C:Addr}{fs:List (Str×V)}{f:Str}{v:V}{A:Around}{E:Value→Shared→Prop}
theorem ZcZ {d:Option Addr}(I:Inv X pins σ H s)(h:H e=some (xo e C d)):∃(o:Obj) (t:Addr),s.heap.get? e=some o∧o.cls=.ref C∧o.dict=d∧o.data=.fields #[.ref t,.none,.none,.none,.bool false,.none]:=(I.hok e _ h).1
theorem Zi5 {P:Program}{w:World}{H:Hp}{h:Heap}{d:Option Addr}{o:Obj}{t:Addr}(h1:h.get? e=some o)(h2:o.cls=.ref C)(h3:o.dict=d)(h4:o.data=.fields #[.ref t,.none,.none,.none,.bool false,.none]):ObjOk P w H h e (xo e C d):=
 ⟨⟨o,t,h1,h2,h3,h4⟩,⟨o,h1⟩,fun a b ⟨o,t,q1,q⟩ k=>⟨o,t,k o q1,q⟩⟩
theorem XAt.inst (I:Inv X pins σ H s)(x:XAt H e C fs):∃(ox:Obj) (od:Option Obj),InstAt s.heap e ox C od∧∀name,∃r,(match od with | some o=>PySem.W.lookIn name o | none=>some none)=some r∧RelO (fs.lookup name) r:=by
 cases x with
 | bare h=>
  obtain⟨o,t,h1,h2,h3,h4⟩:=ZcZ I h
  exact⟨o,none,⟨h1,h2,by unfold PySem.W.notCls;rw[h4],by rw[h3];trivial⟩,fun name=>⟨none,rfl,by trivial⟩⟩
 | @full d _ h h' hne=>
  obtain⟨o,t,h1,h2,h3,h4⟩:=ZcZ I h
  obtain⟨⟨_,mA,hn,hr,_⟩,_⟩:=I.hok d _ h'
  obtain⟨od,hod,hl⟩:=ZcH hn
  exact⟨o,some od,⟨h1,h2,by unfold PySem.W.notCls;rw[h4],by rw[h3];exact hod⟩,fun name=>⟨mA name,hl name,hr name⟩⟩
theorem ZgJ:entryFor table "BaseException.__getattribute__"=some Builtin.«object.__getattribute__»:=F.entry_bexc_ga
end
abbrev xraw (C t:Addr):Obj:={ cls:=.ref C,data:=.fields #[.ref t,.none,.none,.none,.bool false,.none] }
abbrev tupO (vs:List Value):Obj:={ cls:=.type "tuple",data:=.seq vs.toArray }
structure Xm (K:Frag)(C:Addr):Prop where
 c:Xc K C
 ob:∃(nm q:Str) (N:Addr) (bs bm:List Value) (hdct:Bool) (sn:List Str) (sub:List Value) (ab:Bool) (col:Option Bool) (dd:Option Addr) (k0 k1 k2 k3 k5:Option Value),
  K.lookup C=some (excClassObj nm q C N bs bm hdct sn sub ab col dd k0 k1 k2 k3 k5 "ValueError.__new__")
 kp:PySem.W.keepIn K (.ref C)=true
section
variable {prog:Program}{w:World}{A:Around}{E:Value→Shared→Prop}{h:Heap}{g:Array GenState}{d:Drawn}{t:Nat}{os:OsState}{K:Frag}
variable {nm q:Str}{C N:Addr}{bs bm:List Value}{hdct:Bool}{sn:List Str}{sub:List Value}{ab:Bool}{col:Option Bool}{dd:Option Addr}{k0 k1 k2 k3 k5:Option Value}
theorem Zfl {M:Model} {rest:List Value} {Q:Unit→Shared→Prop} (hx:xmro (.ref C::bm)=true) (hC:h.get? C=some (excClassObj nm q C N bs bm hdct sn sub ab col dd k0 k1 k2 k3 k5 "ValueError.__new__"))
  (hq:Q () ⟨h,g,d,t,os⟩):wpAny M A (checkBuiltinCall "ValueError.__new__" ⟨.ref C::rest,[]⟩) Q E ⟨h,g,d,t,os⟩:=by
 have Fn:=F.excBase_ValueError
 have hcB:=Zbz (n:="ValueError") (b:=true) (by decide +kernel) hx
 have hstar:=Fn.noStar
 simp only[checkBuiltinCall,Fn.newKind,Fn.newSplit,Fn.newRow]
 repeat (first | refine wpAny_loadPart_at hC ?_ | (refine wpAny_isSubtype_exc hC ?_;rw[hcB]) | refine wpAny_staticBase_exc hC ?_ | refine wpAny_madeBy_exc hC ?_ | simp only[bne_self_eq_false,Bool.false_eq_true,if_false] | wp_step)
 exact hq
theorem xnew {R:Result→Shared→Prop} {rest:List Value} (hx:xmro (.ref C::bm)=true) (hC:h.get? C=some (excClassObj nm q C N bs bm hdct sn sub ab col dd k0 k1 k2 k3 k5 "ValueError.__new__"))
  (hq:R (.ok (.ret (.ref (h.objs.size+1)))) ⟨(h.push (tupO rest)).push (xraw C h.objs.size),g,d,t,os⟩) (hrest:rest.length≤sizeLine):
  codeAny (model prog w) A (.builtin "ValueError.__new__" ⟨.ref C::rest,[]⟩) R ⟨h,g,d,t,os⟩:=by
 have Fn:=F.excBase_ValueError
 have hends:=Fn.ends
 have hcB:=Zbz (n:="ValueError") (b:=true) (by decide +kernel) hx
 have hcA:=Zbz (n:="AttributeError") (b:=false) (by decide +kernel) hx
 have hcN:=Zbz (n:="NameError") (b:=false) (by decide +kernel) hx
 refine codeAny_builtinAt Fn.entry ?_
 unfold Builtin.«BaseException.__new__»
 refine PySem.wpAt_bind ?_
 show PySem.wpAt _ _ _ (stack >>= _) _ _ _
 refine PySem.wpAt_bind (PySem.wpAt_stack fun p below=>PySem.wpAt_of_wpAny ?_)
 wp_walk
 refine PySem.wpAt_of_wpAny ?_
 rw[Fn.owner]
 repeat (first | with_reducible refine wpAny_madeHere_exc Fn.canon hC ?_ | with_reducible refine wpAny_loadPart_at hC ?_ | (with_reducible refine wpAny_isSubtype_exc hC ?_;first | rw[hcB] | rw[hcA] | rw[hcN]) | wp_step)
 show R _ _
 rw[Heap.size_push]
 exact hq
theorem Zkr {R:Result→Shared→Prop} {rest:List Value} {init:Value} (KX:K.In h) (hx:xmro (.ref C::bm)=true) (hC:h.get? C=some (excClassObj nm q C N bs bm hdct sn sub ab col dd k0 k1 k2 k3 k5 "ValueError.__new__"))
  (hi:Looks (model prog w) h (typeLookup (.ref C) "__init__") (some init)) (hb:∀self,Looks (model prog w) h (bindSpecial init self) (init,[self])) (hrest:rest.length≤sizeLine)
  (hq:codeAny (model prog w) (A.under (.builtin "type.__call__" ⟨.ref C::rest,[]⟩)) (.call init ⟨.ref (h.objs.size+1)::rest,[]⟩) (PySem.W.InitBack (h.objs.size+1) R) ⟨(h.push (tupO rest)).push (xraw C h.objs.size),g,d,t,os⟩):
  codeAny (model prog w) A (.call (.ref C) ⟨rest,[]⟩) R ⟨h,g,d,t,os⟩:=by
 have f1:=tc_lookup
 have f2:=tc_bind (.ref C)
 have hT:(⟨h,g,d,t,os⟩:Shared).TypeIs (.ref C) "type":=⟨_,hC,rfl⟩
 have Fn:=F.excBase_ValueError
 refine codeAny_of_tree ?_
 show wpAny _ _ (callAny (.ref C) _) _ _ _
 repeat (any_goals (first | assumption | with_reducible refine wpAny_loadPart_at hC ?_ | wp_step))
 refine⟨rfl,?_⟩
 refine codeAny_call_builtin_at (Code.quiet_builtin _ (by decide +kernel)) entry_typeCall (wpAny_check_type_call_sub hC ?_)
 repeat (first | with_reducible refine wpAny_loadPart_at hC ?_ | with_reducible refine wpAny_madeBy_exc hC ?_ | wp_step)
 refine codeAny_call_builtin_code (Code.quiet_builtin _ Fn.quiet) (Zfl hx hC ?_)
 refine xnew hx hC ?_ hrest
 show wpAny _ _ _ _ _ _
 have k:∀b o,h.get? b=some o→((h.push (tupO rest)).push (xraw C h.objs.size)).get? b=some o:=fun b o e=>Heap.get?_push_of_some _ (Heap.get?_push_of_some _ e)
 have hC1:=k _ _ hC
 have hget:((h.push (tupO rest)).push (xraw C h.objs.size)).get? (h.objs.size+1)=some { cls:=.ref C,data:=.fields #[.ref h.objs.size,.none,.none,.none,.bool false,.none] }:=by heap_get
 have hcC:(Value.ref C::bm).contains (.ref C)=true:=by simp
 have i1:=hi.keeps k
 have b1:=(hb (.ref (h.objs.size+1))).keeps k
 have t1:Looks (model prog w) ((h.push (tupO rest)).push (xraw C h.objs.size)) (typeOf (.ref (h.objs.size+1))) (.ref C):=(Looks.ld hget).andThen .now
 unfold isInstance
 repeat (first | with_reducible refine wpAny_loadPart_at hget ?_ | (with_reducible refine wpAny_isSubtype_exc hC1 ?_;rw[hcC]) | wp_step)
 refine wpAny_isSubtype_exc hC1 ?_
 rw[hcC]
 repeat (first | with_reducible refine wpAny_loadPart_at hget ?_ | wp_step)
 show wpAny _ _ (typeLookup (.ref C) _) _ _ _
 refine i1.at (wpAny_holding (wpAny_bind (b1.at ?_)))
 refine wpAny_bind (wpAny_call ?_)
 refine codeAny_mono hq fun r s' z=>?_
 rcases r with e | (v | _ | _ | _)<;>first | exact z | exact z.elim | skip
 obtain⟨rfl,z⟩:=z
 exact wpAny_pure (wpAny_pure z)
end
section
variable {X:Cx}{pins:List (Addr×Obj)}{σ:St}{H:Hp}{s:Shared}{C:Addr}{us:List Value}{vs:List V}{Q:VK}
theorem Inv.xmade (I:Inv X pins σ H s):Inv X pins σ (upd H (s.heap.objs.size+1) (xo (s.heap.objs.size+1) C none)) { s with heap:=(s.heap.push (tupO us)).push (xraw C s.heap.objs.size) }:=by
 have I1:Inv X pins σ H { s with heap:=s.heap.push (tupO us) }:=I.kept (t':=s.toks) fun b o e=>Heap.get?_push_of_some _ e
 have e2:((s.heap.push (tupO us)).push (xraw C s.heap.objs.size)).get? (s.heap.objs.size+1)=some (xraw C s.heap.objs.size):=by
  have:=Heap.get?_push_size (s.heap.push (tupO us)) (o:=xraw C s.heap.objs.size) rfl
  rwa [Heap.size_push]at this
 exact I1.laid (a:=s.heap.objs.size+1) (t':=s.toks) (fun b u q=>Heap.get?_push_of_some _ q) (Nat.le_of_eq (Heap.size_push _ _)) (Zi5 e2 rfl rfl rfl)
theorem ZfM {e:Addr}{d:Option Addr}{R:Result→Shared→Prop}(I:Inv X pins σ H s)(m:Xm X.K C)(hx:H e=some (xo e C d))(hz:us.length≤sizeLine)(A:Around)
    (h:∀s',Inv X pins σ H s'→R (.ok (.ret .none)) s'):codeAny (model X.prog X.w) A (.call (.builtin "ValueError.__init__") ⟨.ref e::us,[]⟩) R s:=by
  have Fn:=F.excBase_ValueError
  have c:=m.c
  obtain⟨nm,qn,N,bs,bm,hdct,sn,sub,ab,col,dd,k0,k1,k2,k3,k5,lC⟩:=m.ob
  have hC:=I.kIn _ _ lC
  obtain⟨o,t,h1,h2,h3,h4⟩:=ZcZ I hx
  obtain⟨oc,od,oda,osl⟩:=o
  dsimp only at h2 h3 h4
  subst h2 h3 h4
  have L:Looks (model X.prog X.w) s.heap (isInstance (.ref e) (.type "ValueError")) true:=((Looks.ld h1).andThen .now).andThen (PySem.W.looks_mroIn I.kIn (c.base (n:="ValueError") (b:=true) (by decide +kernel)))
  obtain⟨hp,g,dr,tk,os⟩:=s
  refine codeAny_call_builtin Fn.init.plain Fn.initEntry ?_
  have hshort:=Fn.noStar
  simp only[checkBuiltinCall,Fn.initKind,Fn.initSplit,Fn.initRow]
  refine wpAny_bind (L.at ?_)
  simp only[Bool.not_true,Bool.false_eq_true,if_false]
  have fin:wpAny (model X.prog X.w) A.in1 (Builtin.«BaseException.__init__» ⟨.ref e::us,[]⟩) (fun fin s'=>match fin with | .done f=>R (.ok f) s' | .again c'=>c'.quiet=true∧codeAny (model X.prog X.w) A c' R s') (fun e s'=>R (.error e) s') ⟨hp,g,dr,tk,os⟩:=by
    have hlt:e<hp.objs.size:=Heap.lt_size h1
    wp_walk
    refine h _ ?_
    have I1:Inv X pins σ H { (⟨hp,g,dr,tk,os⟩:Shared) with heap:=hp.push (tupO us) }:=I.kept (t':=tk) fun b o e=>Heap.get?_push_of_some _ e
    have e2:=Heap.get?_update_self (Obj.mapFields (·.setIfInBounds 0 (Value.ref hp.objs.size))) (Heap.get?_push_of_some (h:=hp) (tupO us) h1) rfl
    have I2:=I1.write (x:=e) (e:=e) (o:=xo e C od) (h':=(hp.push (tupO us)).update e (Obj.mapFields (·.setIfInBounds 0 (Value.ref hp.objs.size)))) (t':=tk) (by rw[hx];exact trivial) (.inl rfl)
      (fun b u hb q=>by rw[Heap.get?_update_other _ _ (Ne.symm hb)];exact q) ⟨_,e2⟩ (Zi5 e2 rfl rfl rfl)
    rw[Zi8 hx]at I2
    exact I2
  repeat (first | with_reducible refine wpAny_loadPart_at hC ?_ | (with_reducible refine wpAny_load hC ?_) | with_reducible refine wpAny_loadPart_at h1 ?_ | wp_step)
  first
    | (refine wpAny_onRaise ?_
       rw[show ∀(a b:String) (n:Nat),Bind.check ⟨.positional,"*","ValueError",.self,[⟨"args",.varPos,false⟩]⟩ a b n (List.map (fun x=>x.fst) ({ pos:=Value.ref e::us }:Args).kw)=pure () from fun a b n=>check_star_args _ _ _ _ _ _]
       exact wpAny_pure fin)
    | skip
end
structure Xi (K:Frag)(C:Addr):Prop where
 c:Xc K C
 ha:findIn K (.ref C) "__class__"=some (some (.builtin "object.__class__"))
 hn:specialIn K (.builtin "object.__class__") "__get__"=some (some (.builtin "getset_descriptor.__get__"))
 htk:PySem.W.takesIn K (.builtin "object.__class__")=some true
section
variable {K:Frag}{x C:Addr}{ox:Obj}{od:Option Obj}{prog:Program}{w:World}{A:Around}{E:Value→Shared→Prop}{s:Shared}
theorem Zi6 {Q:Option Value→Shared→Prop}(i:Xi K C)(KX:K.In s.heap)(I:InstAt s.heap x ox C od)(h:Q (some (.ref C)) { s with toks:=s.toks+1 }):wpAny (model prog w) A (getAttr? (.ref x) "__class__") Q E s:=by
 have c:=i.c
 have hf:PySem.W.findObj K C od "__class__"=some (.bind (.builtin "getset_descriptor.__get__") (.builtin "object.__class__")):=by
  obtain⟨cd,hc,_⟩:=PySem.W.any_some c.hd
  unfold PySem.W.findObj
  rw[hc,i.ha]
  simp only[Option.bind_some,i.hn,i.htk]
 obtain⟨hp,g,d,t,os⟩:=s
 have L0:=I.type (M:=model prog w)
 have L1:=PySem.W.looks_findIn (M:=model prog w) KX c.ga
 have L2:=PySem.W.looks_findIn (M:=model prog w) KX c.gr
 have L3:=PySem.W.looks_find (M:=model prog w) KX I hf
 have L4:=PySem.W.looks_mroIn (M:=model prog w) KX (c.base (n:="BaseException") (b:=true) (by decide +kernel))
 have hm:=c.base (n:="object") (b:=true) (by decide +kernel)
 have hx2:(Value.builtin "BaseException.__getattribute__" == Value.builtin "object.__getattribute__")=false:=by decide +kernel
 have slot:=F.excAttr_ValueError.ga
 unfold getAttr? getAttrBy?
 refine wpAny_bind (wpAny_mkText (wpAny_bind (wpAny_attempt ?_)))
 unfold getAttrBy
 refine wpAny_holding (wpAny_bind (L0.at (wpAny_bind (L1.at ?_))))
 dsimp only
 rw[hx2,Bool.and_false,if_neg Bool.false_ne_true]
 unfold getAttrByItsOwn hookBefore
 refine wpAny_bind ?_
 show wpAny _ _ (if onTheHeap (Value.ref C)=true then typeLookup (.ref C) "__getattr__" else pure none) _ _ _
 rw[if_pos (show onTheHeap (Value.ref C)=true from rfl)]
 refine L2.at (wpAny_bind (wpAny_attempt (wpAny_holding ?_)))
 unfold callGetattribute
 rw[show (false&&onTheHeap (Value.builtin "BaseException.__getattribute__"))=false from rfl,if_neg Bool.false_ne_true]
 unfold boundAndCalled
 rw[slot.bind]
 refine wpAny_bind (wpAny_pure ?_)
 show wpAny _ _ (call (.builtin "BaseException.__getattribute__") [.ref x,.str "__class__" t]) _ _ _
 refine wpAny_call (codeAny_call_builtin slot.plain ZgJ ?_)
 refine @PySem.W.check_slot (model prog w) _ _ ⟨hp,g,d,t+1,os⟩ "BaseException.__getattribute__" "BaseException" "__getattribute__" (.ref x) [.str "__class__" t] [] _ (by decide +kernel) (by decide +kernel) (L0.andThen L4) (F.args_bexc_ga (.ref x) (.str "__class__" t)) ?_
 refine wpAny_bind (wpAny_pure (wpAny_bind (wpAny_pure (wpAny_bind (L0.at (wpAny_bind (L3.at ?_)))))))
 show wpAny _ _ (holding [.builtin "object.__class__"] (call (.builtin "getset_descriptor.__get__") [.builtin "object.__class__",.ref x,.ref C]) >>= ret) _ _ _
 refine wpAny_bind (wpAny_holding (wpAny_call (PySem.W.class_get (s:=⟨hp,g,d,t+1,os⟩) (ox:=ox) (od:=od) KX I hm (wpAny_pure ?_))))
 exact PySem.W.handed_on rfl (wpAny_pure h)
theorem Zfa (i:Xi K C):PySem.W.KitX K (.ref x) (.ref C) (fun h=>InstAt h x ox C od) where
 ty:=fun _ _ _ I=>I.type
 it:=fun _ _ KX _=>by
  obtain⟨cd,hc,_⟩:=PySem.W.any_some i.c.hd
  unfold PySem.W.clsIn at hc
  split at hc
  ·rename_i ho
   intro A' Q' E' s' k q
   unfold isType loadHead
   exact wpAny_bind (wpAny_loadPart (k _ _ (KX _ _ ho)) (wpAny_pure q))
  ·cases hc
 ne:=fun h tp dd its n sl KX htp=>by
  obtain⟨cd,hc,_⟩:=PySem.W.any_some i.c.hd
  refine Bool.eq_false_iff.mpr fun q=>?_
  have e:C=tp:=Value.ref.inj (beq_iff_eq.mp q)
  subst e
  unfold PySem.W.clsIn at hc
  split at hc
  ·rename_i ho
   have z:=(KX _ _ ho).symm.trans htp
   cases z
  ·cases hc
 ca:=fun KX I k=>Zi6 i KX I k
end
inductive TyX (K:Frag) (H:Hp):V→Value→Prop where
 | pl {x:V} {t:Value} (h:TyOf K H x t):TyX K H x t
 | seqL {a:Addr} {xs:List V} (h:SqL K H a xs):TyX K H (.ref a) (.type "list")
 | seqT {a:Addr} {xs:List V} (h:SqT K H a xs):TyX K H (.ref a) (.type "tuple")
 | exc {e C:Addr} {fs:List (Str×V)} (x:XAt H e C fs) (i:Xi K C):TyX K H (.ref e) (.ref C)
def clsV:V→Option Value
 | .ref a=>some (.ref a)
 | .ty n=>some (.type n)
 | _=>none
theorem ZeP {X:Cx}:Zcl X (.builtin "isinstance") (fun xs H Q=>∃x c t k b,xs=[x,c]∧clsV c=some k∧TyX X.K H x t∧PySem.W.kitOne X.K t k=some b∧Q (.bl b) H):=by
 rintro pins s σ H xs us Q I r ⟨x,c,t,k,b,rfl,hk,ty,e,q⟩
 obtain⟨u,v,rfl,ru,rv⟩:=r.two
 have hv:v=k:=by
  cases c with
  | ref a=>cases hk;exact rv
  | ty n=>cases hk;exact rv
  | _=>cases hk
 subst hv
 cases ty with
 | pl ty=>exact Zgx I ru ty e fun tk=>⟨.bl b,H,I.tok _,rfl,q⟩
 | seqL h=>
  cases ru
  obtain⟨its,_,⟨o,n,ho,hc,_⟩,_⟩:=I.list h
  exact PySem.W.kia_one PySem.W.kitx_list I.kIn ⟨o,ho,hc⟩ e (fun z=>nomatch z) fun tk=>⟨.bl b,H,I.tok _,rfl,q⟩
 | seqT h=>
  cases ru
  obtain⟨its,_,⟨o,ho,hc,_⟩,_⟩:=I.tuple h
  exact PySem.W.kia_one PySem.W.kitx_tuple I.kIn ⟨o,ho,hc⟩ e (fun z=>nomatch z) fun tk=>⟨.bl b,H,I.tok _,rfl,q⟩
 | exc x i=>
  cases ru
  obtain⟨ox,od,J,_⟩:=x.inst I
  exact PySem.W.kia_one (Zfa i) I.kIn J e (fun z=>nomatch z) fun tk=>⟨.bl b,H,I.tok _,rfl,q⟩
def Zkt (K:Frag)(ta:TE)(f:Str):TE:=fun σ H Q=>ta σ H fun x H1=>∃e C fs v,x=.ref e∧XAt H1 e C fs∧Xc K C∧NoAttr K C f∧fs.lookup f=some v∧Q v H1
def Zld (K:Frag)(ta tv:TE)(f:Str):TS:=fun D σ H=>tv σ H fun y H1=>ta σ H1 fun x H2=>∃e C fs,x=.ref e∧XAt H2 e C fs∧Xc K C∧NoAttr K C f∧fs.length<1000 ∧
 ∀H',XAt H' e C (putF f y fs)→(∀b o,H2 b=some o→b≠e→(∀d,H2 e=some (xo e C (some d))→b≠d)→H' b=some o)→(∃d,H' e=some (xo e C (some d))∧(H2 e=some (xo e C (some d))∨H2 d=none))→D.nx σ H'
def ZfX (K:Frag)(C:Addr)(t:TA):TE:=fun σ H Q=>t σ H fun vs H1=>vs.length≤1000∧∀e,H1 e=none→Q (.ref e) (upd H1 e (xo e C none))
def Zjb (C:Addr)(sp:Sp)(E:XK)(t:TA):TE:=fun σ H Q=>t σ H fun vs H1=>vs.length≤1000∧∀e,H1 e=none→sp (.ref e::vs) (upd H1 e (xo e C none)) (fun v H2=>v=.non∧Q (.ref e) H2) E
section
variable {X:Cx}{o e value:Expr}{es:List Expr}{f x:Str}{p pos pos':Pos}{ta tv:TE}{t:TA}{C fI:Addr}
theorem Xm.parts {K:Frag}{C:Addr}(m:Xm K C):∃(nm q:Str) (N:Addr) (bs bm:List Value) (hdct:Bool) (sn:List Str) (sub:List Value) (ab:Bool) (col:Option Bool) (dd:Option Addr) (k0 k1 k2 k3 k5:Option Value),
  K.lookup C=some (excClassObj nm q C N bs bm hdct sn sub ab col dd k0 k1 k2 k3 k5 "ValueError.__new__")∧xmro (.ref C::bm)=true:=by
 obtain⟨nm,qn,N,bs,bm,hdct,sn,sub,ab,col,dd,k0,k1,k2,k3,k5,lC⟩:=m.ob
 refine⟨nm,qn,N,bs,bm,hdct,sn,sub,ab,col,dd,k0,k1,k2,k3,k5,lC,?_⟩
 have hm:=m.c.mr
 unfold PySem.W.clsIn at hm
 rw[lC]at hm
 exact hm
theorem Zft {pins:List (Addr×Obj)} {σ:St} {H:Hp} {s:Shared} {Q:VK} {us:List Value} (m:Xm X.K C) (hi:findIn X.K (.ref C) "__init__"=some (some (.builtin "ValueError.__init__"))) (I:Inv X pins σ H s) (hz:us.length≤1000)
  (h:∀e,H e=none→Q (.ref e) (upd H e (xo e C none))):wpAny (model X.prog X.w) X.A (call (.ref C) us) (EP X pins σ Q) X.xe s:=by
 obtain⟨nm,qn,N,bs,bm,hdct,sn,sub,ab,col,dd,k0,k1,k2,k3,k5,lC,hx⟩:=m.parts
 have I2:=Inv.xmade (C:=C) (us:=us) I
 have hq:=h (s.heap.objs.size+1) (I.hok.fresh (Nat.le_succ _))
 have hz':us.length≤sizeLine:=Nat.le_trans hz (by rw[sizeLine_eq];decide)
 have KX:=I.kIn
 have hC:=KX _ _ lC
 obtain⟨hp,g,d,t,os⟩:=s
 refine wpAny_call (Zkr (K:=X.K) KX hx hC (PySem.W.looks_findIn KX hi) (fun self=>Looks.of_pure (F.excBase_ValueError.init.bind self)) hz' ?_)
 refine ZfM I2 m ZaH hz' _ fun s' I3=>⟨rfl,?_⟩
 exact⟨.ref _,_,I3,rfl,hq⟩
theorem Zgg (m:Xm X.K C) (hi:findIn X.K (.ref C) "__init__"=some (some (.builtin "ValueError.__init__"))) (hg:Gl X x) (hm:X.mg x=some (.ref C)) (ha:PA X (e::es) t)
  (hdb:(x == ("__debug__":Str))=false:=by decide) (he:starEach (e::es) X.env=(false,eval e X.env)::starEach es X.env:=by rfl) (hpl:(backTo pos (starEach es X.env)).any (·.1)=false:=by rfl):
  PE X (.Call (.Name x p) (e::es) [] pos) (ZfX X.K C t):=by
 intro pins s σ H Q I h
 refine wpAny_Call_Name_kw (ZbN I hg hm ?_ hdb)
 refine PySem.W.callWith_K (h₀:=X.base) I.ok.mod.kin m.kp (thn (ha pos pins s σ H _ I h) fun us s1 ⟨vs,H1,I1,r,hz,q⟩=>⟨I1.kIn,?_⟩) he hpl
 exact Zft m hi I1 (by rw[List.nil_append,←r.length];exact hz) q
structure ClsRead (K:Frag)(C:Addr)(f:Str)(v:Value):Prop where
 sp:specialIn K (.ref C) "__getattribute__"=some (some (.builtin "type.__getattribute__"))
 rd:PySem.W.readsIn K C (.type "type")=true
 fd:PySem.W.findCls K (.ref C) (.type "type") f=some (.val v)
 hn:PySem.W.handedIn v=true
def Zjc (K:Frag)(t:TA):TE:=fun σ H Q=>t σ H fun vs H1=>∃e C d rest,vs=.ref e::rest∧H1 e=some (xo e C d)∧Xm K C∧rest.length≤1000∧Q .non H1
end
end L2
namespace L2
open PySem PySem.Spec PyProof.Rows
section
variable {X:Cx}{pins:List (Addr×Obj)}{σ:St}{H:Hp}{s:Shared}
end
def Ite (K:PySem.W.Frag)(a:Addr):It:=
 ⟨fun i H=>∃xs x,SqL K H a xs∧xs[i]?=some x,fun i H x H'=>∃p v,H p=none∧x=.ref p∧H'=upd H p (.tup [.int i,v])∧∀xs,SqL K H a xs→xs[i]?=some v,fun i H=>∃xs,SqL K H a xs∧xs.length≤i⟩
section
variable {X:Cx}{es:List Expr}{x1:Nat}{tp:Pos}
def ZlG (K:PySem.W.Frag)(ta:TA):TI:=fun σ H R=>ta σ H fun vs H1=>∃a,vs=[.ref a]∧(∃xs,SqL K H1 a xs)∧R (Ite K a) H1
end
section
variable {H:Hp}{Q:VK}{σ:St}
theorem q_I {C:Int→Int→Prop}{g:Int→Int→V}{i j:Int}:rI C g (.int i) (.int j) H Q=(C i j∧Q (g i j) H):=
 propext ⟨fun ⟨_,_,e1,e2,h⟩=>by cases e1;cases e2;exact h,fun h=>⟨i,j,rfl,rfl,h⟩⟩
theorem q_I0 {g:Int→Int→V}{i j:Int}:rI0 g (.int i) (.int j) H Q=Q (g i j) H:=
 propext ⟨fun ⟨_,_,e1,e2,h⟩=>by cases e1;cases e2;exact h,fun h=>⟨i,j,rfl,rfl,h⟩⟩
theorem q_U {g:Int→V}{i:Int}:rU g (.int i) H Q=Q (g i) H:=
 propext ⟨fun ⟨_,e1,h⟩=>by cases e1;exact h,fun h=>⟨i,rfl,h⟩⟩
theorem q_T {C:List Nat→List Nat→Prop}{g:List Nat→List Nat→V}{a b:List Nat}:rT C g (tx a) (tx b) H Q=(C a b∧Q (g a b) H):=
 propext ⟨fun ⟨_,_,e1,e2,h⟩=>by rw[ZbQ.mp e1,ZbQ.mp e2];exact h,fun h=>⟨a,b,rfl,rfl,h⟩⟩
theorem q_b {b:Bool}{p:Bool→Prop}:(∃k,V.bl b=V.bl k∧p k)=p b:=
 propext ⟨fun ⟨_,e,h⟩=>by cases e;exact h,fun h=>⟨b,rfl,h⟩⟩
theorem q_var {v:V}{p:V→Prop}:(∃u,some (some v)=some (some u)∧p u)=p v:=
 propext ⟨fun ⟨_,e,h⟩=>by cases e;exact h,fun h=>⟨v,rfl,h⟩⟩
theorem q_var' {v:V}{p:V→Prop}:(∃u,v=u∧p u)=p v:=
 propext ⟨fun ⟨_,e,h⟩=>by cases e;exact h,fun h=>⟨v,rfl,h⟩⟩
end
end L2
namespace L2
open PySem PySem.Spec PyProof.Rows
open PySem.W (Frag findIn specialIn typeIn mroIn clsIn subIn kitOne kitCls)
def Zkl (sc sco:Scope):Bool:=decide (sc.kind=.function)&&sc.names.all fun y=>decide (y.2≠NameKind.cell)&&(decide (y.2≠NameKind.local) || decide (sc.names.lookup y.1=some NameKind.local)) &&
 (decide (y.2≠NameKind.free) || (decide (sco.names.lookup y.1=some NameKind.cell) || decide (sco.names.lookup y.1=some NameKind.free)))
theorem ZbG {X:Cx}{sc:Scope}(h:Zkl sc X.env.scope=true):CmpScope X sc:=by
 unfold Zkl at h
 rw[Bool.and_eq_true,List.all_eq_true]at h
 obtain⟨h1,h2⟩:=h
 refine⟨of_decide_eq_true h1,fun y hy=>?_,fun y hy e=>?_,fun y hy e=>?_⟩
 ·have:=h2 y hy
  simp only[Bool.and_eq_true,Bool.or_eq_true,decide_eq_true_eq]at this
  exact this.1.1
 ·have:=h2 y hy
  simp only[Bool.and_eq_true,Bool.or_eq_true,decide_eq_true_eq]at this
  rcases this.1.2 with z | z
  ·exact absurd e z
  ·exact z
 ·have:=h2 y hy
  simp only[Bool.and_eq_true,Bool.or_eq_true,decide_eq_true_eq]at this
  rcases this.2 with z | z | z
  ·exact absurd e z
  ·exact .inl z
  ·exact .inr z
section
variable {K:Frag}{H:Hp}{C D:Addr}
structure ClsOk (K:Frag)(C:Addr)(mro:List Value):Prop where
 cd:∃cd,clsIn K C=some cd∧cd.mro=mro
 ty:typeIn K (.ref C)=some (.type "type")
 ne:mro.isEmpty=false
theorem ZiE {m1 m2:List Value}{b:Bool}(c:ClsOk K C m1)(d:ClsOk K D m2)(h:m1.contains (.ref D)=b)(hh:C=D→b=true):kitOne K (.ref C) (.ref D)=some b:=by
 obtain⟨cd,e1,e2⟩:=c.cd
 obtain⟨cd',e3,e4⟩:=d.cd
 unfold PySem.W.kitOne
 split
 ·rename_i z
  have z':Value.ref C=Value.ref D:=by simpa using z
  cases z'
  rw[hh rfl]
 ·unfold PySem.W.kitCls
  dsimp only
  rw[e3,d.ty]
  simp only[Option.isSome_some,Bool.true_and,beq_self_eq_true,if_true]
  unfold PySem.W.subIn PySem.W.mroIn
  dsimp only
  rw[e1,Option.bind_some,e2,c.ne,h]
  rfl
theorem ZaP {a:Addr}{o:HO}(h:H a=none):Same H (upd H a o):=fun b u hb=>by rw[Zau (Zap hb h)];exact hb
end
def Mk0 (C:Addr)(H:Hp)(Q:VK):Prop:=∀e,H e=none→Q (.ref e) (upd H e (xo e C none))
def MkI (sp:Sp)(E:XK)(C:Addr)(vs:List V)(H:Hp)(Q:VK):Prop:=∀e,H e=none→sp (.ref e::vs) (upd H e (xo e C none)) (fun v H2=>v=.non∧Q (.ref e) H2) E
def NewL (xs:List V)(H:Hp)(Q:VK):Prop:=∀p,H p=none→Q (.ref p) (upd H p (.lst xs))
def NewT (xs:List V)(H:Hp)(Q:VK):Prop:=∀p,H p=none→Q (.ref p) (upd H p (.tup xs))
section
variable {K:Frag}{C:Addr}{sp:Sp}{E:XK}{t:TA}{σ:St}{H:Hp}{Q:VK}{vs:List V}
theorem Zlg:ZfX K C t σ H Q=t σ H (fun vs H1=>vs.length≤1000∧Mk0 C H1 Q):=rfl
theorem Zlf:Zjb C sp E t σ H Q=t σ H (fun vs H1=>vs.length≤1000∧MkI sp E C vs H1 Q):=rfl
theorem Zlh:tLst t σ H Q=t σ H (fun xs H1=>xs.length≤sizeLine∧NewL xs H1 Q):=rfl
theorem Zle:tTup t σ H Q=t σ H (fun xs H1=>xs.length≤sizeLine∧NewT xs H1 Q):=rfl
theorem Zlj {l b:Addr}:rCat (.ref l) (.ref b) H Q=∃xs zs,H l=some (.lst xs)∧H b=some (.lst zs)∧xs.length+zs.length≤sizeLine∧NewL (xs++zs) H Q:=
 propext ⟨fun ⟨_,_,xs,zs,e1,e2,h⟩=>by cases e1;cases e2;exact⟨xs,zs,h⟩,fun ⟨xs,zs,h⟩=>⟨l,b,xs,zs,rfl,rfl,h⟩⟩
theorem NewL.of (h:∀p H',Same H H'→H p=none→H' p=some (.lst vs)→Q (.ref p) H'):NewL vs H Q:=fun p hp=>h p _ (ZaP hp) hp ZaH
theorem NewT.of (h:∀p H',Same H H'→H p=none→H' p=some (.tup vs)→Q (.ref p) H'):NewT vs H Q:=fun p hp=>h p _ (ZaP hp) hp ZaH
theorem Zh6:bootBuiltins "str"=some (.type "str"):=by decide +kernel
theorem Zko:bootBuiltins "int"=some (.type "int"):=by decide +kernel
theorem ZiZ:bootBuiltins "bool"=some (.type "bool"):=by decide +kernel
theorem ZiY:bootBuiltins "list"=some (.type "list"):=by decide +kernel
theorem ZhH:bootBuiltins "tuple"=some (.type "tuple"):=by decide +kernel
theorem Zej:bootBuiltins "set"=some (.type "set"):=by decide +kernel
theorem ZaO:bootBuiltins "len"=some (.builtin "len"):=by decide +kernel
theorem ZaS:bootBuiltins "isinstance"=some (.builtin "isinstance"):=by decide +kernel
theorem Zkp:bootBuiltins "all"=some (.builtin "all"):=by decide +kernel
theorem Zkn:bootBuiltins "min"=some (.builtin "min"):=by decide +kernel
theorem Zbl:bootBuiltins "sorted"=some (.builtin "sorted"):=by decide +kernel
end
def Own (K:Frag)(H:Hp)(d:DT)(x:V):Prop:=DatOk K H d x∧deq d d=true∧dep d≤60
theorem SqL.mk {K:Frag}{H:Hp}{a:Addr}{xs:List V}(h:H a=some (.lst xs)):SqL K H a xs:=.inl (.inl h)
theorem SqT.mk {K:Frag}{H:Hp}{a:Addr}{xs:List V}(h:H a=some (.tup xs)):SqT K H a xs:=.inl (.inl h)
section
variable {X:Cx}{K:Frag}
theorem ZaG (hK:X.K=K)(hu:X.A.units+64<cLine):OpR X (compareOp .Eq) (rEqD K false):=by subst hK;exact ZjO hu
theorem ZcC (hK:X.K=K)(hu:X.A.units+64<cLine):OpR X (compareOp .NotEq) (rEqD K true):=by subst hK;exact ZjL hu
theorem Zdx (hK:X.K=K):IxR X (rIxL K):=by subst hK;exact ZiF
theorem ZeI (hK:X.K=K):IxR X (rIxT K):=by subst hK;exact Zj9
theorem Zc7 (hK:X.K=K):OpR X (compareOp .In) (rIn K false):=by subst hK;exact Zgj
theorem Zbp (hK:X.K=K):OpR X (compareOp .NotIn) (rIn K true):=by subst hK;exact Zd0
theorem Zan (hK:X.K=K):Zcl X (.builtin "len") (fun xs H Q=>∃x n,xs=[x]∧LenV K x H n∧Q (.int n) H):=by subst hK;exact ZhG
theorem Zbo {e:Expr}{f:Str}{pos:Pos}{ta:TE}(hK:X.K=K)(he:PE X e ta)(hb:attributeBase e f X.env (eval e X.env)=eval e X.env):PE X (.Attribute e f pos) (tFld K ta f):=by subst hK;exact ZjJ he hb
theorem Zds {tg l:Expr}{tl:TE}(hK:X.K=K)(hl:PE X l tl):PI X tg l (ZiH K tl):=by subst hK;exact Zip hl
end
theorem cxK {CX:CXT}{P:Program}{w:World}{K:PySem.W.Frag}{mg:Str→Option Value}{base:Heap}{N:List Str}{qual:Str}{scope:Scope}{f:Addr}{cd:Value}{A:Around}{outer:List Env}{s:Shared}{H:Hp}{E:XK}:
  (cxOf CX P w K mg base N qual scope f cd A outer s H E).K=K:=rfl
theorem bxK {X:Cx}{sc:Scope}{N:List Str}{fp:List Addr}{s₀:Shared}{H:Hp}{pn:List (Addr×Obj)}:(bx X sc N fp s₀ H pn).K=X.K:=rfl
end L2
namespace L2
open PySem PySem.Spec PyProof.Rows
open PySem.W (Frag)
def ForRun (J:It)(g:TG)(tb:TS)(D:Ends)(σ:St)(H:Hp):Prop:=∃W:Nat→Nat→St→Hp→Prop,(∃m,W 0 m σ H)∧∀i m σ H,W i m σ H →
 (J.stop i H∧D.nx σ H)∨(J.go i H∧∃N:St→Hp→Prop,(∀σ' H',N σ' H'→∃m',m'<m∧W (i+1) m' σ' H')∧∀x H',J.yld i H x H'→g x σ H' fun σ2 H2=>tb { D with nx:=N,ct:=N,bk:=D.nx } σ2 H2)
theorem Zli {wi:TI}{g:TG}{tb:TS}{D:Ends}{σ:St}{H:Hp}:tFor wi g tb D σ H=wi σ H fun J H1=>ForRun J g tb D σ H1:=rfl
def CompRun (J:It)(τ0:St)(g:TG)(tt:TT)(te:TE)(H1:Hp)(Q:VK):Prop:=∀acc,H1 acc=none→∃W:Nat→Nat→St→Hp→Prop,(∃m,W 0 m τ0 (upd H1 acc (.lst []))) ∧
 ∀i m τ H2,W i m τ H2→(J.stop i H2∧Q (.ref acc) H2)∨(J.go i H2∧∃Nx:St→Hp→Prop,(∀τ' H',Nx τ' H'→∃m',m'<m∧W (i+1) m' τ' H') ∧
  ∀x H3,J.yld i H2 x H3→g x τ H3 fun τ2 H4=>tt τ2 H4 fun b H5=>if b=true then te τ2 H5 fun y H6=>∃ys,H6 acc=some (.lst ys)∧ys.length<sizeLine∧Nx τ2 (upd H6 acc (.lst (ys++[y]))) else Nx τ2 H5)
theorem ZjA {ix:List (Option Nat)}{wi:TI}{g:TG}{tt:TT}{te:TE}{σ:St}{H:Hp}{Q:VK}:Zic ix wi g tt te σ H Q=wi σ H fun J H1=>CompRun J (pick ix σ) g tt te H1 Q:=rfl
section
variable {g:TG}{tb:TS}{D:Ends}{σ:St}{H:Hp}{K:Frag}{a:Addr}{xs:List V}
theorem ForRun.list (Pv:Nat→St→Hp→Prop)(h0:Pv 0 σ H)(hl:∀i σ H,i≤xs.length→Pv i σ H→SqL K H a xs)
  (hs:∀i x σ H,xs[i]?=some x→Pv i σ H→g x σ H fun σ2 H2=>tb { D with nx:=Pv (i+1),ct:=Pv (i+1),bk:=D.nx } σ2 H2) (hd:∀σ H,Pv xs.length σ H→D.nx σ H):ForRun (Itl K a) g tb D σ H:=
 ZhB Pv h0 hl hs hd
theorem ForRun.range {lo:Int}{n:Nat}(Pv:Nat→St→Hp→Prop)(h0:Pv 0 σ H)
  (hs:∀i σ H,i<n→Pv i σ H→g (.int (lo+i)) σ H fun σ2 H2=>tb { D with nx:=Pv (i+1),ct:=Pv (i+1),bk:=D.nx } σ2 H2) (hd:∀σ H,Pv n σ H→D.nx σ H):
  ForRun (Itr lo n) g tb D σ H:=ZgH Pv h0 hs hd
theorem ForRun.text {l:List Nat}(Pv:Nat→St→Hp→Prop)(h0:Pv 0 σ H)
  (hs:∀i c σ H,l[i]?=some c→Pv i σ H→g (tx [c]) σ H fun σ2 H2=>tb { D with nx:=Pv (i+1),ct:=Pv (i+1),bk:=D.nx } σ2 H2) (hd:∀σ H,Pv l.length σ H→D.nx σ H):
  ForRun (Its l) g tb D σ H:=ZhA Pv h0 hs hd
end
section
variable {tt:TT}{te:TE}{Q:VK}{τ0:St}{H:Hp}
theorem CompRun.gen {J:It}{n:Nat}(v:Nat→V)(b:Nat→Bool)(f:Nat→V)(hz:n≤1000)(hgo:∀i H',i<n→Same H H'→J.go i H')(hst:∀H',Same H H'→J.stop n H')(hy:∀i H' x H3,i<n→Same H H'→J.yld i H' x H3→H3=H'∧x=v i)
  (ht:∀i H' Q',i<n→Same H H'→(∀H'',Same H' H''→Q' (b i) H'')→tt (τ0.set 0 (some (v i))) H' Q')
  (he:∀i H' Q',i<n→b i=true→Same H H'→(∀H'',Same H' H''→Q' (f i) H'')→te (τ0.set 0 (some (v i))) H' Q')
  (hQ:∀p H',Same H H'→H p=none→H' p=some (.lst (((List.range n).filter b).map f))→Q (.ref p) H'):CompRun J τ0 (ZcQ 0) tt te H Q:=by
 intro acc ha
 refine⟨fun i m τ H2=>i≤n∧m=n-i∧(∀w:Option V,τ.set 0 w=τ0.set 0 w)∧Same H H2∧H2 acc=some (.lst (((List.range i).filter b).map f)),⟨n,Nat.zero_le _,rfl,fun _=>rfl,ZaP ha,ZaH⟩,?_⟩
 rintro i m τ H2 ⟨hi,rfl,hτ,hs,hacc⟩
 by_cases hlt:i<n
 ·refine .inr ⟨hgo i H2 hlt hs,fun τ' H'=>(∀w:Option V,τ'.set 0 w=τ0.set 0 w)∧Same H H'∧H' acc=some (.lst (((List.range (i+1)).filter b).map f)),fun τ' H' q=>⟨n-(i+1),by omega,hlt,rfl,q⟩,fun x H3 y=>?_⟩
  obtain⟨rfl,rfl⟩:=hy i H2 x H3 hlt hs y
  show tt (τ.set 0 (some (v i))) _ _
  rw[hτ]
  have hτ':∀w:Option V,(τ0.set 0 (some (v i))).set 0 w=τ0.set 0 w:=fun w=>by rw[List.set_set]
  refine ht i _ _ hlt hs fun H4 s4=>?_
  cases hb:b i with
  | false=>
   rw[if_neg Bool.false_ne_true]
   refine⟨hτ',hs.trans s4,?_⟩
   rw[s4 _ _ hacc,List.range_succ,List.filter_append]
   simp[hb]
  | true=>
   rw[if_pos rfl]
   refine he i _ _ hlt hb (hs.trans s4) fun H5 s5=>?_
   refine⟨_,s5 _ _ (s4 _ _ hacc),?_,hτ',?_,?_⟩
   ·rw[List.length_map]
    have:=List.length_filter_le b (List.range i)
    rw[List.length_range]at this
    exact Zct (by omega)
   ·intro c o hc
    have:c≠acc:=Zap hc ha
    rw[Zau this]
    exact s5 _ _ (s4 _ _ (hs _ _ hc))
   ·rw[ZaH,List.range_succ,List.filter_append]
    simp[hb]
 ·have e:i=n:=by omega
  subst e
  exact .inl ⟨hst H2 hs,hQ acc H2 hs ha hacc⟩
theorem CompRun.range {lo:Int}{n:Nat}(b:Nat→Bool)(f:Nat→V)(hz:n≤1000)
  (ht:∀(i:Nat) H' Q',i<n→Same H H'→(∀H'',Same H' H''→Q' (b i) H'')→tt (τ0.set 0 (some (.int (lo+i)))) H' Q')
  (he:∀(i:Nat) H' Q',i<n→b i=true→Same H H'→(∀H'',Same H' H''→Q' (f i) H'')→te (τ0.set 0 (some (.int (lo+i)))) H' Q')
  (hQ:∀p H',Same H H'→H p=none→H' p=some (.lst (((List.range n).filter b).map f))→Q (.ref p) H'):CompRun (Itr lo n) τ0 (ZcQ 0) tt te H Q:=
 .gen (fun i=>.int (lo+i)) b f hz (fun i _ h _=>h) (fun _ _=>Nat.le_refl _) (fun i H' x H3 _ _ y=>y) ht he hQ
theorem filter_all {n:Nat}{f:Nat→V}:((List.range n).filter fun _=>true).map f=(List.range n).map f:=by rw[List.filter_eq_self.mpr (fun _ _=>rfl)]
theorem CompRun.rangeA {lo:Int}{n:Nat}(f:Nat→V)(hz:n≤1000)
  (he:∀(i:Nat) H' Q',i<n→Same H H'→(∀H'',Same H' H''→Q' (f i) H'')→te (τ0.set 0 (some (.int (lo+i)))) H' Q')
  (hQ:∀p H',Same H H'→H p=none→H' p=some (.lst ((List.range n).map f))→Q (.ref p) H'):CompRun (Itr lo n) τ0 (ZcQ 0) tAll te H Q:=
 .range (fun _=>true) f hz (fun i H' Q' _ _ q=>q H' (Same.refl _)) (fun i H' Q' hi _=>he i H' Q' hi) fun p H' s n e=>hQ p H' s n (by rw[e,filter_all])
theorem CompRun.text {l:List Nat}(b:Nat→Bool)(f:Nat→V)(hz:l.length≤1000)
  (ht:∀i H' Q' (h:i<l.length),Same H H'→(∀H'',Same H' H''→Q' (b i) H'')→tt (τ0.set 0 (some (tx [l.getD i 0]))) H' Q')
  (he:∀i H' Q' (h:i<l.length),b i=true→Same H H'→(∀H'',Same H' H''→Q' (f i) H'')→te (τ0.set 0 (some (tx [l.getD i 0]))) H' Q')
  (hQ:∀p H',Same H H'→H p=none→H' p=some (.lst (((List.range l.length).filter b).map f))→Q (.ref p) H'):CompRun (Its l) τ0 (ZcQ 0) tt te H Q:=
 .gen (fun i=>tx [l.getD i 0]) b f hz (fun i _ h _=>h) (fun _ _=>Nat.le_refl _) (fun i H' x H3 _ _ y=>by
  obtain⟨e,c,hc,rfl⟩:=y
  refine⟨e,?_⟩
  rw[List.getD_eq_getElem?_getD,hc];rfl) ht he hQ
end
theorem ZcT:∀ {vs:List V},vs.all Za7=true→deqs (vs.map DT.f) (vs.map DT.f)=true
 | [],_=>by unfold deqs;rfl
 | v::vs,h=>by
  rw[List.all_cons,Bool.and_eq_true]at h
  rw[List.map_cons]
  unfold deqs
  rw[ZcT h.2]
  unfold deq
  rw[Zfh h.1]
  rfl
theorem ownL {K:Frag}{H:Hp}{a:Addr}{vs:List V}(h:SqL K H a vs)(hf:vs.all Za7=true):Own K H (.l (vs.map DT.f)) (.ref a):=⟨datL h hf,by unfold deq;exact ZcT hf,by unfold dep;rw[Zeg];decide⟩
theorem ownT {K:Frag}{H:Hp}{a:Addr}{vs:List V}(h:SqT K H a vs)(hf:vs.all Za7=true):Own K H (.t (vs.map DT.f)) (.ref a):=⟨datT h hf,by unfold deq;exact ZcT hf,by unfold dep;rw[Zeg];decide⟩
end L2
namespace L2
open PySem PySem.Spec PyProof.Rows
theorem Zks {t:SetTable}{n:Nat}:(t.orStandIn n).led=t.led∧((t.orStandIn n).plain=true→t.plain=true):=by
 unfold SetTable.orStandIn
 split
 ·exact⟨rfl,id⟩
 ·exact⟨rfl,fun h=>by cases h⟩
theorem Zja {t:SetTable}{es:Array (Int×Value)}{h:Int}{x:Value}:(layNew t es h x).2.1.led=t.led∧((layNew t es h x).2.1.plain=true→t.plain=true):=by
 unfold layNew
 split
 ·rename_i slot wd _
  exact Zks (t:=(t.put slot).1)
 ·exact⟨rfl,fun h=>by cases h⟩
theorem Zia {mask finger moves:Nat}{led plain:Bool}{hs:Array Int}{t':SetTable}{order:Array Nat}(e:SetTable.laid mask finger moves led plain hs=some (t',order)):t'.led=led∧t'.plain=plain:=by
 unfold SetTable.laid at e
 cases hq:SetTable.layClean mask hs with
 | none=>rw[hq]at e;cases e
 | some ow=>
  rw[hq]at e
  have e':=Option.some.inj e
  obtain⟨z,_⟩:=Prod.mk.inj e'
  subst z
  exact⟨rfl,rfl⟩
theorem ZgY {t:SetTable}{es:Array (Int×Value)}{n:Nat}:(relayAll t es n).2.1.led=t.led∧((relayAll t es n).2.1.plain=true→t.plain=true):=by
 unfold relayAll
 split
 ·rename_i t' order q
  obtain⟨h1,h2⟩:=Zia q
  dsimp only
  split
  ·exact⟨h1,fun h=>by rw[←h2];exact h⟩
  ·exact⟨rfl,fun h=>by cases h⟩
 ·exact⟨rfl,fun h=>by cases h⟩
def TxSet (P:Program)(w:World)(h:Heap)(a:Addr)(ls:List (List Nat))(led:Bool):Prop:=
 ∃(o:Obj) (es:Array (Int×Value)) (ep:Nat) (t:SetTable) (ms:List (List Nat)),h.get? a=some o∧o.ExactSet∧o.data=.set es ep t∧ElemsOf (ZaT P w) es.toList∧t.fits es.size=true ∧
  t.led=led∧(t.plain=true→es.size=0)∧ms.Perm ls∧Vals (ms.map tx) (es.toList.map (·.2))∧es.size<scanBound
theorem TxSet.keep {P:Program}{w:World}{h h':Heap}{a:Addr}{ls:List (List Nat)}{led:Bool}(x:TxSet P w h a ls led)(k:∀o,h.get? a=some o→h'.get? a=some o):TxSet P w h' a ls led:=by
 obtain⟨o,es,ep,t,ms,h1,r⟩:=x
 exact⟨o,es,ep,t,ms,k o h1,r⟩
theorem TxSet.typ {P:Program}{w:World}{s:Shared}{a:Addr}{ls:List (List Nat)}{led:Bool}(x:TxSet P w s.heap a ls led):s.TypeIs (.ref a) "set":=by
 obtain⟨o,es,ep,t,ms,h1,h2,_⟩:=x
 exact⟨o,h1,h2.1⟩
def addT (ls:List (List Nat))(l:List Nat):List (List Nat):=if l∈ls then ls else ls++[l]
theorem Zkd {l:List Nat}{v:V}{u:Value}(r:RelV v u)(hv:∃m,v=tx m):Zck (Sum.inr (⟨l.toArray⟩:Str):Key) u=decide (v=tx l):=by
 obtain⟨m,rfl⟩:=hv
 obtain⟨t,rfl⟩:=r
 rw[Zcg]
 simp only[Zck,Value.isStrOf]
 by_cases h:m=l
 ·subst h;simp
 ·have:¬(⟨m.toArray⟩:Str)=⟨l.toArray⟩:=fun e=>h (ZbQ.mp (congrArg V.str e))
  rw[decide_eq_false h]
  simp[this]
theorem Zdi {l:List Nat}:∀ {ms:List (List Nat)} {es:List (Int×Value)},Vals (ms.map tx) (es.map (·.2))→((∃e∈es,Zck (Sum.inr (⟨l.toArray⟩:Str):Key) e.2=true)↔l∈ms)
 | [],[],_=>by simp
 | [],_::_,r=>by cases r
 | _::_,[],r=>by cases r
 | m::ms,e::es,r=>by
  cases r with
  | cons r1 r2=>
   have ih:=Zdi (l:=l) r2
   have q:=Zkd (l:=l) r1 ⟨m,rfl⟩
   rw[Zcg]at q
   constructor
   ·rintro⟨x,hx,hk⟩
    rcases List.mem_cons.mp hx with z | z
    ·subst z
     rw[q]at hk
     exact List.mem_cons.mpr (.inl (of_decide_eq_true hk).symm)
    ·exact List.mem_cons.mpr (.inr (ih.mp ⟨x,z,hk⟩))
   ·intro h
    rcases List.mem_cons.mp h with z | z
    ·exact⟨e,List.mem_cons_self,by rw[q];exact decide_eq_true z.symm⟩
    ·obtain⟨x,hx,hk⟩:=ih.mpr z
     exact⟨x,List.mem_cons_of_mem _ hx,hk⟩
theorem Zbs {us us':List Value}(p:us'.Perm us):∀ {ms:List (List Nat)},Vals (ms.map tx) us→∃ms':List (List Nat),ms'.Perm ms∧Vals (ms'.map tx) us':=by
 induction p with
 | nil=>intro ms r;exact⟨ms,.refl _,r⟩
 | cons x _ ih=>
  intro ms r
  cases ms with
  | nil=>cases r
  | cons m ms=>
   cases r with
   | cons r1 r2=>
    obtain⟨ms',p',r'⟩:=ih r2
    exact⟨m::ms',p'.cons _,.cons r1 r'⟩
 | swap x y l=>
  intro ms r
  match ms,r with
  | m1::m2::ms,.cons r1 (.cons r2 r3)=>exact⟨m2::m1::ms,.swap _ _ _,.cons r2 (.cons r1 r3)⟩
 | trans _ _ ih1 ih2=>
  intro ms r
  obtain⟨m1,p1,r1⟩:=ih2 r
  obtain⟨m2,p2,r2⟩:=ih1 r1
  exact⟨m2,p2.trans p1,r2⟩
section
variable {prog:Program}{w:World}{A:Around}{E:Value→Shared→Prop}{s:Shared}
theorem ZeV {g:Bool→Sem Unit}(hg:∀(b:Bool) (s₁:Shared) (Q':Unit→Shared→Prop),Q' () s₁→wpAny (model prog w) A (g b) Q' E s₁){a:Addr}{o:Obj}{es:Array (Int×Value)}{ep:Nat}{t:SetTable}
  (ho:s.heap.get? a=some o) (hd:o.data=.set es ep t) {e1:Array (Int×Value)} {t2:SetTable} (hb:e1.size<scanBound) (hf:t2.fits e1.size=true) {wd:Bool} {R:Option Bool→Shared→Prop}
  (h:∀h' e2 t3 ep',Heap.SameBut a s.heap h'→h'.get? a=some { o with data:=.set e2 ep' t3 }→e2.toList.Perm e1.toList→t3.fits e2.size=true→t3.led=t2.led→(t3.plain=true→t2.plain=true)→R (some true) { s with heap:=h' }):
  wpAny (model prog w) A (do
   storeSet a e1 t2
   if (!wd&&t2.tooFull)=true then do
    g (relayAll t2 e1 (SetTable.grown e1.size)).2.2;storeSet a (relayAll t2 e1 (SetTable.grown e1.size)).1 (relayAll t2 e1 (SetTable.grown e1.size)).2.1;pure (some true)
   else pure (some true)) R E s:=by
 have put:∀ {h:Heap} {ob:Obj} {xs ys:Array (Int×Value)} {n:Nat} {t t':SetTable},h.get? a=some ob→ob.data=.set xs n t→(h.update a (Obj.putSet ys t')).get? a=some { ob with data:=.set ys (n+1) t' }:=fun {h ob xs ys n t t'} h1 h2=>by
  have q:=Heap.get?_update_self (Obj.putSet ys t') h1 (by rw[putSet_of ys t' h2];rfl)
  rwa [putSet_of ys t' h2]at q
 have hs1:=Heap.SameBut.update s.heap a (Obj.putSet e1 t2)
 have g1:=put (ys:=e1) (t':=t2) ho hd
 refine wpAny_bind (wpAny_storeSet_of ho hd ?_ (fits_of_scanBound hb))
 split
 ·have p:=relayAll_perm t2 e1 (SetTable.grown e1.size)
  have f:=relayAll_fits t2 e1 (SetTable.grown e1.size)
  have tm:=ZgY (t:=t2) (es:=e1) (n:=SetTable.grown e1.size)
  have z:(relayAll t2 e1 (SetTable.grown e1.size)).1.size=e1.size:=by rw[←Array.length_toList,p.length_eq,Array.length_toList]
  refine wpAny_bind (hg _ _ _ (wpAny_bind (wpAny_storeSet_of g1 rfl (wpAny_pure ?_) (fits_of_scanBound (by rw[z];exact hb)))))
  exact h _ _ _ _ (hs1.trans (Heap.SameBut.update _ a _)) (put (ob:={ o with data:=.set e1 (ep+1) t2 }) g1 rfl) p f tm.1 tm.2
 ·exact wpAny_pure (h _ _ _ _ hs1 g1 (.refl _) hf rfl id)
theorem Zf6 {a:Addr}{ls:List (List Nat)}{led:Bool}{l:List Nat}{tk:Tok}{Q:Bool→Shared→Prop}(hS:TxSet prog w s.heap a ls led)(hn:ls.length+1<scanBound)
  (h:∀h' b,Heap.SameBut a s.heap h'→TxSet prog w h' a (addT ls l) led→Q b { s with heap:=h' }):
  wpAny (model prog w) A (setAddHashed a (.str ⟨l.toArray⟩ tk) (keyH w (Sum.inr ⟨l.toArray⟩))) Q E s:=by
 obtain⟨o,es,ep,t,ms,ho,hex,hd,hel,hf,hled,hpl,hp,hv,hb⟩:=hS
 have hkey:(ZaT prog w).is (Sum.inr (⟨l.toArray⟩:Str)) (.str ⟨l.toArray⟩ tk)=true:=by
  exact ZcE prog w _ _
 have hsc:(Value.str ⟨l.toArray⟩ tk).scannable=true:=rfl
 have hlen:es.size=ls.length:=by
  have q:=hv.length
  rw[List.length_map,List.length_map]at q
  rw[←Array.length_toList,←q,hp.length_eq]
 have mem:=Zdi (l:=l) hv
 have hl:l∈ms↔l∈ls:=hp.mem_iff
 unfold setAddHashed setAddHashedIn
 refine wpAny_holding (wpAny_bind (wpAny_setState_of ho hd hf ?_))
 dsimp only
 rw[byScan_of hsc hb hel,if_pos rfl]
 unfold setAddByScan
 refine wpAny_bind (wpAny_bind (wpAny_rule (wpAny_bind (wpAny_setScan_of (knd:=ZaT prog w) (k:=Sum.inr (⟨l.toArray⟩:Str)) hkey ho hd hf hel ?_))))
 cases hr:List.findIdx? (fun e=>(ZaT prog w).is (Sum.inr (⟨l.toArray⟩:Str)) e.2) es.toList with
 | some j=>
  dsimp only
  obtain⟨hj,hpj,_⟩:=List.findIdx?_eq_some_iff_getElem.mp hr
  have hin:l∈ls:=hl.mp (mem.mp ⟨es.toList[j],List.getElem_mem hj,hpj⟩)
  refine wpAny_pure (wpAny_pure ?_)
  have q:=h s.heap false (Heap.SameBut.refl a s.heap) (by
   unfold addT
   rw[if_pos hin]
   exact⟨o,es,ep,t,ms,ho,hex,hd,hel,hf,hled,hpl,hp,hv,hb⟩)
  exact q
 | none=>
  dsimp only
  have hnin:l∉ls:=fun z=>by
   obtain⟨e,he,hk⟩:=mem.mpr (hl.mpr z)
   have q:=List.findIdx?_eq_none_iff.mp hr e he
   rw[show (ZaT prog w).is (Sum.inr (⟨l.toArray⟩:Str)) e.2=true from hk]at q
   cases q
  have lp:=layNew_perm t es (keyH w (Sum.inr ⟨l.toArray⟩)) (.str ⟨l.toArray⟩ tk)
  have lf:=layNew_fits t es (keyH w (Sum.inr ⟨l.toArray⟩)) (.str ⟨l.toArray⟩ tk)
  have lt:=Zja (t:=t) (es:=es) (h:=keyH w (Sum.inr ⟨l.toArray⟩)) (x:=.str ⟨l.toArray⟩ tk)
  show wpAny _ A (match layNew t es (keyH w (Sum.inr ⟨l.toArray⟩)) (.str ⟨l.toArray⟩ tk) with | (es,t,wasDummy,gave)=>_) _ _ _
  generalize hL:layNew t es (keyH w (Sum.inr ⟨l.toArray⟩)) (.str ⟨l.toArray⟩ tk)=L at lp lf lt ⊢
  obtain⟨e1,t1,wd,gave⟩:=L
  dsimp only at lp lf lt ⊢
  rw[Array.toList_push]at lp
  have sz1:e1.size=ls.length+1:=by rw[←Array.length_toList,lp.length_eq,List.length_append,Array.length_toList,hlen];rfl
  have gw:∀(b:Bool) (s₁:Shared) (Q':Unit→Shared→Prop),Q' () s₁→wpAny (model prog w) A (match b with | true=>rule "set.scan.the-table-gave-way" | false=>pure ()) Q' E s₁:=
   fun b s₁ Q' hq=>by cases b<;>first | exact wpAny_pure hq | exact wpAny_rule hq
  refine wpAny_bind (gw _ _ _ ?_)
  have fin:∀(t2:SetTable),t2.fits e1.size=true→t2.led=t1.led→t2.plain=false→∀h' e2 t3 ep',Heap.SameBut a s.heap h'→h'.get? a=some { o with data:=.set e2 ep' t3 }→e2.toList.Perm e1.toList→t3.fits e2.size=true→t3.led=t2.led→(t3.plain=true→t2.plain=true)→Q true { s with heap:=h' }:=by
   intro t2 f2 l2 p2 h' e2 t3 ep' sb hg pm f3 l3 p3
   refine h h' true sb ?_
   have pall:=pm.trans lp
   obtain⟨ms',pm',hv'⟩:=Zbs (us:=(es.toList++[(keyH w (Sum.inr ⟨l.toArray⟩),Value.str ⟨l.toArray⟩ tk)]).map (·.2)) (us':=e2.toList.map (·.2)) (pall.map _) (ms:=ms++[l]) (by
    rw[List.map_append,List.map_append]
    exact hv.append (.cons ⟨tk,rfl⟩ .nil))
   unfold addT
   rw[if_neg hnin]
   refine⟨_,e2,ep',t3,ms',hg,hex,rfl,((hel.push (knd:=ZaT prog w) hkey hsc).perm pall),f3,l3.trans (l2.trans (lt.1.trans hled)),fun z=>by rw[p2]at p3;exact absurd (p3 z) Bool.false_ne_true,pm'.trans (hp.append_right [l]),hv',?_⟩
   rw[←Array.length_toList,pm.length_eq,Array.length_toList,sz1]
   exact hn
  split
  ·refine wpAny_bind ?_
   rw[hashByValue_scannable 8 hsc]
   refine wpAny_pure ?_
   refine ZeV gw ho hd (by rw[sz1];exact hn) ?_ fun h' e2 t3 ep' q1 q2 q3 q4 q5 q6=>?_
   ·exact SetTable.fits_plain_off lf
   ·exact wpAny_pure (fin _ (SetTable.fits_plain_off lf) rfl rfl h' e2 t3 ep' q1 q2 q3 q4 q5 q6)
  ·rename_i hnp
   have hnp':t1.plain=false:=by simpa using hnp
   refine wpAny_bind (wpAny_pure ?_)
   rw[if_pos rfl]
   refine ZeV gw ho hd (by rw[sz1];exact hn) lf fun h' e2 t3 ep' q1 q2 q3 q4 q5 q6=>wpAny_pure (fin _ lf rfl hnp' h' e2 t3 ep' q1 q2 q3 q4 q5 q6)
end
theorem Zew:∀(j a b:Nat),b % 2=1→2 ^ j∣a*b→2 ^ j∣a
 | 0,a,b,_,_=>⟨a,by simp⟩
 | j+1,a,b,hb,⟨c,hc⟩=>by
  have ev:a % 2=0:=by
   have h2:a*b % 2=0:=by rw[hc,Nat.pow_succ,Nat.mul_assoc,Nat.mul_comm,Nat.mul_assoc];exact Nat.mul_mod_right 2 _
   rw[Nat.mul_mod,hb]at h2
   omega
  obtain⟨a',rfl⟩:∃a',a=2*a':=⟨a/2,by omega⟩
  have h3:2*(a'*b)=2*(2 ^ j*c):=by rw[←Nat.mul_assoc,hc,Nat.pow_succ,Nat.mul_comm (2 ^ j) 2,Nat.mul_assoc]
  obtain⟨d,hd⟩:=Zew j a' b hb ⟨c,Nat.eq_of_mul_eq_mul_left (by decide) h3⟩
  exact⟨d,by rw[hd,Nat.pow_succ,Nat.mul_comm (2 ^ j) 2,Nat.mul_assoc]⟩
theorem Zdz:∀n:Nat,∃e,5 ^ n=4*e+1
 | 0=>⟨0,rfl⟩
 | n+1=>by
  obtain⟨e,he⟩:=Zdz n
  exact⟨5*e+1,by rw[Nat.pow_succ,he];omega⟩
theorem Zfg:∀(k n c:Nat),5 ^ n=2 ^ (k+2)*c+1→2 ^ k∣n
 | 0,n,c,_=>⟨n,by simp⟩
 | k+1,n,c,h=>by
  obtain⟨e,he⟩:=Zdz (n/2)
  have sq:5 ^ (2*(n/2))=8*(e*(2*e+1))+1:=by
   rw[Nat.pow_mul',he]
   have:(4*e+1) ^ 2=8*(e*(2*e+1))+1:=by
    rw[Nat.pow_succ,Nat.pow_one,Nat.mul_add e,Nat.mul_one,Nat.mul_add (4*e+1),Nat.mul_one,Nat.add_mul,Nat.one_mul,Nat.mul_left_comm e 2 e]
    have:4*e*(4*e)=16*(e*e):=by rw[Nat.mul_mul_mul_comm]
    rw[this];omega
   exact this
  have p3:2 ^ (k+1+2)=8*2 ^ k:=by rw[show k+1+2=k+3 from rfl,Nat.pow_add,Nat.mul_comm]
  rw[p3]at h
  by_cases ev:n % 2=0
  ·have en:2*(n/2)=n:=by omega
   rw[en,h,Nat.mul_assoc]at sq
   have:2 ^ k*c=e*(2*e+1):=by omega
   obtain⟨d,hd⟩:=Zew k e (2*e+1) (by omega) ⟨c,this.symm⟩
   have:=Zfg k (n/2) d (by rw[he,hd,Nat.pow_add];rw[show (2:Nat) ^ 2=4 from rfl,Nat.mul_comm (2 ^ k) 4,Nat.mul_assoc])
   obtain⟨q,hq⟩:=this
   exact⟨q,by rw[Nat.pow_succ,Nat.mul_comm (2 ^ k) 2,Nat.mul_assoc,←hq];exact en.symm⟩
  ·exfalso
   have en:n=2*(n/2)+1:=by omega
   rw[en,Nat.pow_succ,sq,Nat.mul_assoc]at h
   omega
def hop (N:Nat):Nat→Nat→Nat
 | 0,i=>i
 | n+1,i=>hop N n ((i*5+1) % N)
theorem ZgB {N:Nat}(hN:0<N):∀(n i:Nat),i<N→hop N n i<N
 | 0,i,h=>h
 | n+1,i,h=>ZgB hN n _ (Nat.mod_lt _ hN)
theorem ZgC {N:Nat}:∀(a b i:Nat),hop N (a+b) i=hop N b (hop N a i)
 | 0,b,i=>by rw[Nat.zero_add];rfl
 | a+1,b,i=>by rw[Nat.add_right_comm];exact ZgC a b _
theorem Zfc {N:Nat}:∀(n i:Nat),∃c d,4*hop N n i+1+4*N*c=5 ^ n*(4*i+1)+4*N*d
 | 0,i=>⟨0,0,by simp[hop]⟩
 | n+1,i=>by
  obtain⟨c,d,h⟩:=Zfc (N:=N) n ((i*5+1) % N)
  have e:=Nat.div_add_mod (i*5+1) N
  refine⟨c+5 ^ n*((i*5+1)/N),d,?_⟩
  show 4*hop N n ((i*5+1) % N)+1+4*N*(c+5 ^ n*((i*5+1)/N))=_
  have h5:5 ^ (n+1)*(4*i+1)=5 ^ n*(4*(i*5+1)+1):=by rw[Nat.pow_succ,Nat.mul_assoc];congr 1;omega
  have h6:5 ^ n*(4*(i*5+1)+1)=5 ^ n*(4*((i*5+1) % N)+1)+4*N*(5 ^ n*((i*5+1)/N)):=by
   have:4*(i*5+1)+1=(4*((i*5+1) % N)+1)+4*(N*((i*5+1)/N)):=by omega
   rw[this,Nat.mul_add]
   congr 1
   rw[Nat.mul_left_comm,Nat.mul_assoc 4 N,Nat.mul_left_comm (5 ^ n) N]
  rw[h5,h6,Nat.mul_add]
  omega
theorem Zhx {k n i:Nat}(hi:i<2 ^ k)(h:hop (2 ^ k) n i=i):2 ^ k∣n:=by
 obtain⟨c,d,e⟩:=Zfc (N:=2 ^ k) n i
 rw[h]at e
 obtain⟨q,hq⟩:=Zdz n
 rw[hq,Nat.add_mul,Nat.one_mul]at e
 have e2:2 ^ k*c=q*(4*i+1)+2 ^ k*d:=by
  have a1:4*2 ^ k*c=4*(2 ^ k*c):=Nat.mul_assoc _ _ _
  have a2:4*2 ^ k*d=4*(2 ^ k*d):=Nat.mul_assoc _ _ _
  have a3:4*q*(4*i+1)=4*(q*(4*i+1)):=Nat.mul_assoc _ _ _
  omega
 have dv:2 ^ k∣q*(4*i+1):=(Nat.dvd_add_iff_left ⟨d,rfl⟩).mpr ⟨c,e2.symm⟩
 obtain⟨r,hr⟩:=Zew k q (4*i+1) (by omega) dv
 refine Zfg k n r ?_
 rw[hq,hr,Nat.pow_add,show (2:Nat) ^ 2=4 from rfl,Nat.mul_comm (2 ^ k) 4,Nat.mul_assoc]
theorem Zgm {N:Nat}{l:List Nat}(nd:l.Nodup)(hl:l.length=N)(hb:∀x∈l,x<N){j:Nat}(hj:j<N):j∈l:=by
 refine Classical.byContradiction fun n=>?_
 have len:∀(l m:List Nat),l.Nodup→(∀x∈l,x∈m)→l.length≤m.length:=by
  intro l
  induction l with
  | nil=>intro m _ _;exact Nat.zero_le _
  | cons x l ih=>
   intro m nd h
   have hx:=h x List.mem_cons_self
   have nd':=List.nodup_cons.mp nd
   have:=ih (m.erase x) nd'.2 fun y hy=>(List.mem_erase_of_ne (fun e=>by rw[e]at hy;exact nd'.1 hy)).mpr (h y (List.mem_cons_of_mem _ hy))
   rw[List.length_erase_of_mem hx]at this
   have pos:0<m.length:=List.length_pos_of_mem hx
   rw[List.length_cons]
   omega
 have:=len (j::l) (List.range N) (List.nodup_cons.mpr ⟨n,nd⟩) fun x hx=>by
  rcases List.mem_cons.mp hx with z | z
  ·rw[z];exact List.mem_range.mpr hj
  ·exact List.mem_range.mpr (hb x z)
 rw[List.length_cons,List.length_range]at this
 omega
theorem ZiI {k i j:Nat}(hi:i<2 ^ k)(hj:j<2 ^ k):∃n,n<2 ^ k∧hop (2 ^ k) n i=j:=by
 have pos:0<2 ^ k:=Nat.two_pow_pos k
 have lt:∀a b,a<b→b<2 ^ k→hop (2 ^ k) a i≠hop (2 ^ k) b i:=fun a b ab bl e=>by
  have:b=a+(b-a):=by omega
  rw[this,ZgC]at e
  have dv:=Zhx (ZgB pos a i hi) e.symm
  have:=Nat.le_of_dvd (by omega) dv
  omega
 have nd:((List.range (2 ^ k)).map fun n=>hop (2 ^ k) n i).Nodup:=by
  unfold List.Nodup
  rw[List.pairwise_map]
  exact List.Pairwise.imp_of_mem (fun {a b} ha hb (h:a<b)=>lt a b h (List.mem_range.mp hb)) (List.pairwise_lt_range (n:=2 ^ k))
 have:=Zgm nd (by simp) (fun x hx=>by
  obtain⟨n,_,rfl⟩:=List.mem_map.mp hx
  exact ZgB pos n i hi) hj
 obtain⟨n,hn,e⟩:=List.mem_map.mp this
 exact⟨n,List.mem_range.mp hn,e⟩
section
variable {mask k j:Nat}{owner:Array (Option Nat)}
theorem Zjw (mask i:Nat):0<SetTable.runEnd mask i+1-i:=by unfold SetTable.runEnd;split<;>omega
theorem Zeb {fuel i p:Nat}{R:Option Nat→Prop}(h1:∀x,owner.getD x (some 0)=none→R (some x))(h2:owner.getD i (some 0)≠none→R (SetTable.layClean.free mask owner fuel ((i*5+1+p/32) % (mask+1)) (p/32))):
  R (SetTable.layClean.free mask owner (fuel+1) i p):=by
 unfold SetTable.layClean.free
 cases hf:(List.range (SetTable.runEnd mask i+1-i)).find? fun k=>(owner.getD (i+k) (some 0)).isNone with
 | some d=>
  have:=List.find?_some hf
  exact h1 (i+d) (Option.isNone_iff_eq_none.mp this)
 | none=>
  refine h2 fun e=>?_
  have:=List.find?_eq_none.mp hf 0 (List.mem_range.mpr (Zjw mask i))
  rw[Nat.add_zero,e]at this
  exact this rfl
theorem Zea (hj:owner.getD j (some 0)=none):∀(fuel n i:Nat),n<fuel→hop (mask+1) n i=j→∃x,SetTable.layClean.free mask owner fuel i 0=some x∧owner.getD x (some 0)=none
 | 0,n,i,h,_=>absurd h (Nat.not_lt_zero _)
 | fuel+1,n,i,h,e=>by
  refine Zeb (R:=fun r=>∃x,r=some x∧owner.getD x (some 0)=none) (fun x hx=>⟨x,rfl,hx⟩) fun ne=>?_
  cases n with
  | zero=>exact absurd (by rw[show i=j from e];exact hj) ne
  | succ n=>exact Zea hj fuel n _ (by omega) e
theorem ZgG (hk:mask+1=2 ^ k)(hj:owner.getD j (some 0)=none)(hl:j<mask+1):∀(c fuel i p:Nat),p<32 ^ c→c+mask+1≤fuel→i<mask+1→∃x,SetTable.layClean.free mask owner fuel i p=some x∧owner.getD x (some 0)=none
 | 0,fuel,i,p,hp,hf,hi=>by
  have:p=0:=by simpa using hp
  subst this
  obtain⟨n,hn,e⟩:=ZiI (k:=k) (i:=i) (j:=j) (by omega) (by omega)
  rw[←hk]at e hn
  exact Zea hj fuel n i (by omega) e
 | c+1,0,i,p,hp,hf,hi=>by omega
 | c+1,fuel+1,i,p,hp,hf,hi=>by
  refine Zeb (R:=fun r=>∃x,r=some x∧owner.getD x (some 0)=none) (fun x hx=>⟨x,rfl,hx⟩) fun _=>?_
  exact ZgG hk hj hl c fuel _ _ (Nat.div_lt_of_lt_mul (by rw[Nat.pow_succ,Nat.mul_comm]at hp;exact hp)) (by omega) (Nat.mod_lt _ (Nat.succ_pos _))
theorem Zec:∀ {l:List (Option Nat)},(l.filterMap id).length<l.length→∃j:Nat,l[j]?=some none
 | [],h=>by simp at h
 | none::l,_=>⟨0,rfl⟩
 | some x::l,h=>by
  have e:(some x::l).filterMap id=x::l.filterMap id:=rfl
  rw[e,List.length_cons,List.length_cons]at h
  obtain⟨j,e⟩:=Zec (l:=l) (by omega)
  exact⟨j+1,e⟩
theorem Zjo {l:List (Option Nat)}{j x:Nat}(h:l[j]?=some none):((l.set j (some x)).filterMap id).Perm (l.filterMap id++[x]):=by
 obtain⟨hj,e⟩:=List.getElem?_eq_some_iff.mp h
 have e1:l=l.take j++none::l.drop (j+1):=by
  conv=>lhs;rw[←List.take_append_drop j l,List.drop_eq_getElem_cons hj,e]
 have e2:l.set j (some x)=l.take j++some x::l.drop (j+1):=by rw[List.set_eq_take_append_cons_drop,if_pos hj]
 have e3:l.filterMap id=(l.take j).filterMap id++(l.drop (j+1)).filterMap id:=by
  conv=>lhs;rw[e1]
  rw[List.filterMap_append]
  rfl
 have e4:(some x::l.drop (j+1)).filterMap id=x::(l.drop (j+1)).filterMap id:=rfl
 rw[e2,e3,List.filterMap_append,e4,List.append_assoc]
 exact(List.perm_append_singleton x _).symm.append_left _
def layF (mask:Nat)(acc:Option (Array (Option Nat)×Nat))(h:Int):Option (Array (Option Nat)×Nat):=do
 let (owner,k) ←acc
 let j ←SetTable.layClean.free mask owner (SetTable.turns mask) (SetTable.bits h % (mask+1)) (SetTable.bits h)
 pure (owner.setIfInBounds j (some k),k+1)
theorem Ze9 (hk:mask+1=2 ^ k):∀(hs:List Int) (owner:Array (Option Nat)) (n:Nat),owner.size=mask+1→(owner.toList.filterMap id).Perm (List.range n)→n+hs.length≤mask+1 →
  ∃o',hs.foldl (layF mask) (some (owner,n))=some (o',n+hs.length)∧o'.size=mask+1∧(o'.toList.filterMap id).Perm (List.range (n+hs.length))
 | [],owner,n,h1,h2,_=>⟨owner,rfl,h1,h2⟩
 | h::hs,owner,n,h1,h2,h3=>by
  rw[List.length_cons]at h3
  obtain⟨j,hj⟩:=Zec (l:=owner.toList) (by rw[h2.length_eq,List.length_range,Array.length_toList];omega)
  have jl:j<mask+1:=by
   have:=(List.getElem?_eq_some_iff.mp hj).1
   rw[Array.length_toList]at this
   omega
  have hjd:owner.getD j (some 0)=none:=by
   rw[Array.getElem?_toList]at hj
   rw[Array.getD_eq_getD_getElem?,hj];rfl
  have bl:SetTable.bits h<32 ^ 13:=by
   unfold SetTable.bits
   have a1:=Int.emod_nonneg h (show (2 ^ 64:Int)≠0 by decide)
   have a2:=Int.emod_lt_of_pos h (show (0:Int)<2 ^ 64 by decide)
   have:(32:Nat) ^ 13=36893488147419103232:=by decide
   rw[this]
   omega
  obtain⟨x,hx,hn⟩:=ZgG hk hjd jl 13 (SetTable.turns mask) (SetTable.bits h % (mask+1)) (SetTable.bits h) bl (by unfold SetTable.turns;omega) (Nat.mod_lt _ (Nat.succ_pos _))
  have hx2:owner.toList[x]?=some none:=by
   rw[Array.getD_eq_getD_getElem?]at hn
   rw[Array.getElem?_toList]
   cases e:owner[x]? with
   | none=>rw[e]at hn;cases hn
   | some v=>rw[e]at hn;exact congrArg some hn
  have st:layF mask (some (owner,n)) h=some (owner.setIfInBounds x (some n),n+1):=by
   show (SetTable.layClean.free mask owner (SetTable.turns mask) (SetTable.bits h % (mask+1)) (SetTable.bits h) >>= fun j=>pure (owner.setIfInBounds j (some n),n+1))=_
   rw[hx];rfl
  rw[List.foldl_cons,st,List.length_cons,show n+(hs.length+1)=n+1+hs.length by omega]
  refine Ze9 hk hs _ (n+1) (by rw[Array.size_setIfInBounds];exact h1) ?_ (by omega)
  rw[Array.toList_setIfInBounds,List.range_succ]
  exact(Zjo hx2).trans (h2.append_right [n])
theorem Zj1 {hs:Array Int}(hk:mask+1=2 ^ k)(hn:hs.size≤mask+1):∃o,SetTable.layClean mask hs=some o∧o.size=mask+1∧(o.toList.filterMap id).Perm (List.range hs.size):=by
 obtain⟨o,e,h1,h2⟩:=Ze9 (k:=k) hk hs.toList (Array.replicate (mask+1) none) 0 (by simp) (by simp) (by rw[Array.length_toList];omega)
 refine⟨o,?_,h1,by rw[Nat.zero_add,Array.length_toList]at h2;exact h2⟩
 unfold SetTable.layClean
 rw[←Array.foldl_toList]
 show (hs.toList.foldl (layF mask) (some (Array.replicate (mask+1) none,0))).map (·.1)=some o
 rw[e];rfl
theorem Zgs {hs:Array Int}{finger moves:Nat}{led plain:Bool}(hk:mask+1=2 ^ k)(hn:hs.size≤mask+1):∃t order,SetTable.laid mask finger moves led plain hs=some (t,order)∧order.toList.Perm (List.range hs.size)∧t.mask=mask∧t.place.size=hs.size∧t.dummies=#[]∧t.led=led∧t.plain=plain:=by
 obtain⟨o,e,h1,h2⟩:=Zj1 (hs:=hs) hk hn
 have e3:((List.range (mask+1)).filterMap fun j=>(o.getD j none).map (j,·)).map (·.2)=o.toList.filterMap id:=by
  have e4:o.toList=(List.range (mask+1)).map fun j=>o.getD j none:=by
   apply List.ext_getElem (by simp[h1])
   intro i a b
   have:i<o.size:=by simpa using a
   simp[Array.getD_eq_getD_getElem?,this]
  rw[e4,List.filterMap_map,List.map_filterMap]
  congr 1
  funext j
  show _=o.getD j none
  cases o.getD j none<;>rfl
 refine⟨{ mask,place:=(((List.range (mask+1)).filterMap fun j=>(o.getD j none).map (j,·)).map (·.1)).toArray,dummies:=#[],finger,led,moves,plain },(((List.range (mask+1)).filterMap fun j=>(o.getD j none).map (j,·)).map (·.2)).toArray,?_,?_,rfl,?_,rfl,rfl,rfl⟩
 ·unfold SetTable.laid
  rw[e]
  rfl
 ·rw[List.toList_toArray,e3];exact h2
 ·have:=congrArg List.length e3
  rw[List.length_map,h2.length_eq,List.length_range]at this
  rw[List.size_toArray,List.length_map]
  exact this
end
def dd (val:Nat→List Nat)(i:Nat):List (List Nat):=((List.range i).map val).foldl addT []
theorem ZeM {val:Nat→List Nat}{i:Nat}:dd val (i+1)=addT (dd val i) (val i):=by
 unfold dd
 rw[List.range_succ,List.map_append,List.foldl_append]
 rfl
theorem ZhJ {ls:List (List Nat)}{l:List Nat}:(addT ls l).length≤ls.length+1:=by
 unfold addT
 split
 ·omega
 ·simp
theorem ZgQ {val:Nat→List Nat}:∀i,(dd val i).length≤i
 | 0=>Nat.le_refl _
 | i+1=>by
  rw[ZeM]
  have h1:=ZgQ (val:=val) i
  have h2:=ZhJ (ls:=dd val i) (l:=val i)
  omega
theorem Zb3 {val:Nat→List Nat}:∀i,(dd val i).Nodup
 | 0=>by simp[dd]
 | i+1=>by
  rw[ZeM]
  unfold addT
  split
  ·exact Zb3 i
  ·rename_i h
   rw[List.nodup_append]
   refine⟨Zb3 i,by simp,?_⟩
   intro a ha b hb e
   have:b=val i:=by simpa using hb
   subst e this
   exact h ha
section
variable {prog:Program}{w:World}{A:Around}{R:Result→Shared→Prop}{I:Addr}{fp wr:List Addr}{G:Array GenState→Array GenState→Prop}{n:Nat}{Pi:Nat→Value→Prop}{St:Nat→Shared→Prop}
theorem Zg3 (W:WalksS prog w A.in1 I fp wr G n Pi St)(S:Addr)(hSf:S∉fp)(val:Nat→List Nat)(hval:∀i v,Pi i v→∃t,v=.str ⟨(val i).toArray⟩ t)(hb:n+1<scanBound){led:Bool}:
  ∀(k i:Nat) (s:Shared),n-i=k→i≤n→St i s→TxSet prog w s.heap S (dd val i) led→(∀s',Moved (S::wr) G s s'→TxSet prog w s'.heap S (dd val n) led→R (.ok (.ret .none)) s') →
   codeAny (model prog w) A (.builtin "set.update.loop" ⟨[.ref S,.ref I],[]⟩) R s:=by
 have nw:S∉wr:=fun h=>hSf (W.sub _ h)
 have up:∀b∈wr,b∈S::wr:=fun b hb=>List.mem_cons_of_mem _ hb
 intro k
 induction k with
 | zero=>
  intro i s hk hi st hS hR
  have e:i=n:=by omega
  subst e
  refine codeAny_builtin F.entry_set_update_loop ?_
  rw[Around.under_plainId F.plain_set_update_loop _]
  show wpAny _ A.in1 (pyNext (.ref I) >>= fun r=>_) _ _ s
  refine wpAny_bind (W.done s _ _ st fun s' hm=>?_)
  exact wpAny_pure (hR s' (hm.mono up) (hS.keep fun o e=>hm.heap S o nw e))
 | succ k ih=>
  intro i s hk hi st hS hR
  have hlt:i<n:=by omega
  refine codeAny_builtin F.entry_set_update_loop ?_
  rw[Around.under_plainId F.plain_set_update_loop _]
  show wpAny _ A.in1 (pyNext (.ref I) >>= fun r=>_) _ _ s
  refine wpAny_bind (W.item i s _ _ hlt st fun v s1 hP st1 hm=>?_)
  obtain⟨tk,rfl⟩:=hval i v hP
  have hS1:TxSet prog w s1.heap S (dd val i) led:=hS.keep fun o e=>hm.heap S o nw e
  show wpAny _ A.in1 (holding [Value.str ⟨(val i).toArray⟩ tk] (setAdd S (.str ⟨(val i).toArray⟩ tk)) >>= fun _=>_) _ _ s1
  refine wpAny_bind (wpAny_holding ?_)
  unfold setAdd
  refine wpAny_holding (wpAny_bind (wpAny_pyHash_str ?_))
  refine Zf6 (s:={ s1 with toks:=s1.toks+1 }) (l:=val i) hS1 (by have:=ZgQ (val:=val) i;omega) fun h' b sb hS2=>?_
  rw[←ZeM]at hS2
  refine wpAny_pure ⟨plainId_quiet F.plain_set_update_loop _,ih (i+1) _ (by omega) hlt (W.frame _ s1 _ _ st1 (Nat.le_succ _) fun b hb o e=>(sb.2 b fun z=>hSf (z▸hb)).trans e) hS2 fun s2 hm2 hS3=>?_⟩
  exact hR s2 (Moved.trans W.gtrans ((hm.mono up).then_heap (Nat.le_succ _) fun b o hb e=>(sb.2 b fun z=>hb (z▸List.mem_cons_self)).trans e) hm2) hS3
end
theorem Zco {i:Nat}{u:Value}:∀ {vs:List V} {us:List Value} ,Vals vs us→us[i]?=some u→∃v,vs[i]?=some v∧RelV v u:=by
 induction i with
 | zero=>
  intro vs us r e
  cases r with
  | nil=>cases e
  | cons r1 _=>cases e;exact⟨_,rfl,r1⟩
 | succ i ih=>
  intro vs us r e
  cases r with
  | nil=>cases e
  | cons _ r2=>exact ih r2 e
structure Walked (prog:Program)(w:World)(x:Value)(s:Shared)(T:String)(n:Nat)(val:Nat→List Nat):Prop where
 ty:∀s1:Shared,(∀b o,s.heap.get? b=some o→s1.heap.get? b=some o)→s1.TypeIs x T
 go:∀(A:Around) (s1:Shared) (Q:Value→Shared→Prop) (E:Value→Shared→Prop),A.handled=none→(∀b o,s.heap.get? b=some o→s1.heap.get? b=some o) →
  (∀(h2:Heap) (I:Addr) (fp wr:List Addr) (Pi:Nat→Value→Prop) (St:Nat→Heap→Prop),(∀A':Around,A'.handled=none→Walks prog w A' I fp wr n Pi St)→St 0 h2 →
   (∀b∈fp,b<s.heap.objs.size∨s1.heap.objs.size≤b)→(∀b∈wr,s1.heap.objs.size≤b)→(∀b o,s1.heap.get? b=some o→h2.get? b=some o)→(∀i v,Pi i v→∃t,v=.str ⟨(val i).toArray⟩ t)→Q (.ref I) { s1 with heap:=h2 }) →
  wpAny (model prog w) A (pyIter x) Q E s1
theorem Zet {prog:Program}{w:World}{s:Shared}{l:Addr}{us:List Value}{ls:List (List Nat)}(hl:s.heap.IsList l us.toArray)(r:Vals (ls.map tx) us):Walked prog w (.ref l) s "list" ls.length (fun i=>ls.getD i []) where
 ty:=fun s1 k=>by
  obtain⟨o,ho,hc,_⟩:=hl
  exact⟨o,k _ _ ho,hc⟩
 go:=fun A s1 Q E hh k h=>by
  obtain⟨o,ho,hc,hr⟩:=id hl
  have hl1:s1.heap.IsList l us.toArray:=⟨o,k _ _ ho,hc,hr⟩
  have hlt:=Heap.lt_size ho
  have hlt1:=Heap.lt_size (k _ _ ho)
  have hlen:us.toArray.size=ls.length:=by rw[List.size_toArray,←r.length,List.length_map]
  refine wpAny_pyIter_list hl1 ?_
  have W:∀A':Around,A'.handled=none→Walks prog w A' s1.heap.objs.size [s1.heap.objs.size,l] [s1.heap.objs.size] ls.length (fun i v=>us.toArray[i]?=some v) (fun i h=>h.IsListIter s1.heap.objs.size l i∧h.IsList l us.toArray):=fun A' hA=>by
   have q:=Walks.list (prog:=prog) (w:=w) hA s1.heap.objs.size l (Nat.ne_of_lt hlt1) us.toArray
   rwa [hlen]at q
  refine h _ _ _ _ _ _ W ⟨⟨_,Heap.get?_push_size _ rfl,rfl,rfl⟩,hl1.push _⟩ (fun b hb=>?_) (fun b hb=>?_) (fun b o e=>Heap.get?_push_of_some _ e) (fun i v e=>?_)
  ·rcases List.mem_cons.mp hb with z | z
   ·exact .inr (Nat.le_of_eq z.symm)
   ·have z:b=l:=by simpa using z
    rw[z];exact .inl hlt
  ·have z:b=s1.heap.objs.size:=by simpa using hb
   exact Nat.le_of_eq z.symm
  ·have e':us[i]?=some v:=by simpa using e
   obtain⟨v',hv',rv⟩:=Zco r e'
   rw[List.getElem?_map]at hv'
   cases q:ls[i]? with
   | none=>rw[q]at hv';cases hv'
   | some m=>
    rw[q]at hv'
    cases hv'
    obtain⟨t,rfl⟩:=rv
    exact⟨t,by rw[List.getD_eq_getElem?_getD,q];rfl⟩
theorem Zes {prog:Program}{w:World}{s:Shared}{l:List Nat}{t:Tok}:Walked prog w (.str ⟨l.toArray⟩ t) s "str" l.length (fun i=>[l.getD i 0]) where
 ty:=fun s1 _=>typeIs_str s1 _ _
 go:=fun A s1 Q E hh k h=>by
  have hlen:(⟨l.toArray⟩:Str).cps.size=l.length:=by show l.toArray.size=_;simp
  have item:∀(i:Nat) (v:Value),(∃c u,(⟨l.toArray⟩:Str).cps[i]?=some c∧v=.str ⟨#[c]⟩ u)→∃t,v=.str ⟨[l.getD i 0].toArray⟩ t:=by
   rintro i v ⟨c,u,e,rfl⟩
   have e':l[i]?=some c:=by simpa using e
   exact⟨u,by rw[List.getD_eq_getElem?_getD,e'];rfl⟩
  refine wpAny_pyIter_str fun o St W st=>?_
  rw[hlen]at W
  refine h _ _ _ _ _ _ W st (fun b hb=>.inr ?_) (fun b hb=>?_) (fun b o e=>Heap.get?_push_of_some _ e) (fun i v ⟨c,u,e,e2⟩=>item i v ⟨c,u,e,e2⟩)
  ·have z:b=s1.heap.objs.size:=by simpa using hb
   exact Nat.le_of_eq z.symm
  ·have z:b=s1.heap.objs.size:=by simpa using hb
   exact Nat.le_of_eq z.symm
section
variable {prog:Program}{w:World}{A:Around}{E:Value→Shared→Prop}{s:Shared}
abbrev Zbr (led:Bool):Obj:={ cls:=.type "set",dict:=none,data:=.set #[] 0 (.fresh 0 0 led) }
theorem ZdM {h:Heap}{a:Addr}{led:Bool}(ho:h.get? a=some (Zbr led)):TxSet prog w h a [] led:=
 ⟨_,#[],0,_,[],ho,⟨rfl,rfl,rfl⟩,rfl,fun e he=>by simp at he,rfl,rfl,fun _=>rfl,.refl _,.nil,by show 0<4096;decide⟩
def ZaF (w:World):Bool:=w.params.followText "set-order"
theorem Zie (a:Value){Q₁:Value→Shared→Prop}(h:Q₁ (.ref s.heap.objs.size) { s with heap:=s.heap.push (Zbr (!ZaF w)) }):
  codeAny (model prog w) A (.call (.builtin "set.__new__") ⟨[.type "set",a],[]⟩) (wants Q₁ E) s:=by
 refine codeAny_of_tree ?_
 show wpAny _ A.in1 (checkBuiltinCall "set.__new__" ⟨[.type "set",a],[]⟩ >>= fun _=>again (.builtin "set.__new__" ⟨[.type "set",a],[]⟩)) _ _ s
 refine wpAny_bind (wpAny_of_eq (F.newCall_set_1 a) (wpAny_pure ⟨plainId_quiet F.plain_set_new _,codeAny_builtin F.entry_set_new ?_⟩))
 rw[Around.under_plainId F.plain_set_new _]
 unfold Builtin.«set.__new__» Builtin.Frozenset.newClass
 have hsub:=sub_set_self
 obtain⟨hp,g,d,tk,os⟩:=s
 dsimp only
 wp_walk
 refine wpAny_askSetting (wpAny_pure ?_)
 dsimp only
 simp only[newObj]
 exact wpAny_bind (wpAny_alloc (wpAny_pure (wpAny_pure h)))
set_option maxHeartbeats 3200000 in
theorem ZeW {x:Value} {T:String} {n:Nat} {val:Nat→List Nat} {Q:Value→Shared→Prop} (hh:A.handled=none) (W:Walked prog w x s T n val) (t1:isSubtype (.type T) (.type "set")=pure false) (t2:isSubtype (.type T) (.type "frozenset")=pure false)
  (t3:(Value.type T == Value.type "dict")=false) (hb:n+1<scanBound)
  (h:∀(h':Heap) (tk:Nat),TxSet prog w h' s.heap.objs.size (dd val n) (!ZaF w)→(∀b o,s.heap.get? b=some o→h'.get? b=some o)→s.toks≤tk→Q (.ref s.heap.objs.size) { s with heap:=h',toks:=tk }):
  wpAny (model prog w) A (call (.type "set") [x]) Q E s:=by
 obtain⟨c,tl,hmro⟩:=F.called_set.mro
 have hmade:=F.called_set.made
 have hsub:=F.called_set.sub
 refine wpAny_call (codeAny_of_tree ?_)
 show wpAny _ _ (callAny (.type "set") _) _ _ _
 refine wpAny_pure ⟨Code.quiet_builtin _ (by decide +kernel),codeAny_builtin F.entry_type_call ?_⟩
 rw[Around.under_plain (weight_type_call_type "set" [x] []) rfl]
 have h1:=F.called_set.notType
 have h2:=F.called_set.canCreate
 have hct:=F.typeCall_set_1 x
 repeat (any_goals (first | assumption | wp_step))
 refine codeAny_mono (Zie x (E:=E) (Q₁:=fun ob s₁=>ob=.ref s.heap.objs.size∧s₁={ s with heap:=s.heap.push (Zbr (!ZaF w)) }) ⟨rfl,rfl⟩) fun r s₁ hr=>?_
 cases r with
 | error e=>exact hr
 | ok fl=>
  cases fl with
  | ret ob=>
   obtain⟨rfl,rfl⟩:=hr
   have hS:(s.heap.push (Zbr (!ZaF w))).get? s.heap.objs.size=some (Zbr (!ZaF w)):=Heap.get?_push_size _ rfl
   have hT:Shared.TypeIs { s with heap:=s.heap.push (Zbr (!ZaF w)) } (.ref s.heap.objs.size) "set":=⟨_,hS,rfl⟩
   have hli:=F.called_set.init.lookup
   have hbi:=F.called_set.init.bind (.ref s.heap.objs.size)
   have keep1:∀b o,s.heap.get? b=some o→(s.heap.push (Zbr (!ZaF w))).get? b=some o:=fun b o e=>Heap.get?_push_of_some _ e
   repeat (any_goals (first | assumption | wp_step))
   refine codeAny_mono (codeAny_call_builtin (R:=wants (fun r s₂=>r=.none∧∃h' tk,s₂={ s with heap:=h',toks:=tk }∧TxSet prog w h' s.heap.objs.size (dd val n) (!ZaF w)∧(∀b o,s.heap.get? b=some o→h'.get? b=some o)∧s.toks≤tk) E)
    F.called_set.init.plain F.entry_set_init (check_set_init_1 hT ?_)) fun r₂ s₂ hr₂=>?_
   ·have hTx:=W.ty { s with heap:=s.heap.push (Zbr (!ZaF w)) } keep1
    unfold Builtin.«set.__init__» noKeywords Builtin.Frozenset.updateFrom
    generalize hPI:pyIter=PI
    wp_walk
    subst hPI
    refine W.go _ _ _ _ (by simp[hh]) keep1 fun h2 I fp wr Pi St Wk st f1 f2 k2 hval=>?_
    refine wpAny_bind (wpAny_runValue ?_)
    have hSf:s.heap.objs.size∉fp:=fun z=>by
     rcases f1 _ z with q | q
     ·exact Nat.lt_irrefl _ q
     ·rw[Heap.size_push]at q;exact absurd q (Nat.not_succ_le_self _)
    refine Zg3 ((Wk A.in1.in1.in1 (by simp[hh])).toS) s.heap.objs.size hSf val hval hb (n-0) 0 _ (by omega) (Nat.zero_le _) st (ZdM (k2 _ _ hS)) fun s' hm hS'=>?_
    obtain⟨h',g',d',tk',os'⟩:=s'
    have eg:g'=s.gens:=hm.gens
    have ed:d'=s.drawn:=hm.drawn
    have eo:os'=s.os:=hm.os
    have et:s.toks≤tk':=hm.toks
    subst eg ed eo
    refine wpAny_pure ?_
    refine wpAny_pure ⟨rfl,h',tk',rfl,hS',fun b o e=>?_,et⟩
    have hlt:=Heap.lt_size e
    refine hm.heap b o (fun z=>?_) (k2 b o (keep1 b o e))
    rcases List.mem_cons.mp z with q | q
    ·rw[q]at hlt;exact Nat.lt_irrefl _ hlt
    ·have q2:=f2 b q
     rw[Heap.size_push]at q2
     exact absurd (Nat.lt_of_lt_of_le hlt (Nat.le_of_succ_le q2)) (Nat.lt_irrefl _)
   ·cases r₂ with
    | error e=>exact hr₂
    | ok fl₂=>
     cases fl₂ with
     | ret r=>
      obtain⟨rfl,h',tk,rfl,hS',hk',htk⟩:=hr₂
      repeat (any_goals (first | assumption | wp_step))
      exact h _ _ hS' hk' htk
     | _=>exact hr₂.elim
  | _=>exact hr.elim
end
theorem Zep (n:Nat):∀(fuel size:Nat),(∃k,size=2 ^ k)→∃k,SetTable.sizeAbove.go n fuel size=2 ^ k
 | 0,size,h=>h
 | fuel+1,size,⟨k,h⟩=>by
  unfold SetTable.sizeAbove.go
  split
  ·exact Zep n fuel _ ⟨k+1,by rw[h,Nat.pow_succ]⟩
  ·exact⟨k,h⟩
theorem Zfk (n:Nat):∀(fuel size:Nat),n<size*2 ^ fuel→n<SetTable.sizeAbove.go n fuel size
 | 0,size,h=>by simpa [SetTable.sizeAbove.go] using h
 | fuel+1,size,h=>by
  unfold SetTable.sizeAbove.go
  split
  ·exact Zfk n fuel _ (by rw[Nat.pow_succ]at h;rw[Nat.mul_assoc,Nat.mul_comm 2];exact h)
  ·omega
theorem Zfj (n:Nat):∀(fuel size:Nat),SetTable.sizeAbove.go n fuel size≤max size (2*n)
 | 0,size=>by unfold SetTable.sizeAbove.go;omega
 | fuel+1,size=>by
  unfold SetTable.sizeAbove.go
  split
  ·have:=Zfj n fuel (size*2)
   omega
  ·omega
theorem Zb8 {α:Type}{es:Array α}{order:Array Nat}(h:order.toList.Perm (List.range es.size)):(order.filterMap (es[·]?)).toList.Perm es.toList:=by
 rw[Array.toList_filterMap]
 exact(h.filterMap _).trans (by rw[filterMap_getElem?_range])
theorem Ze4 {h:Heap}{a:Addr}{ob:Obj}{xs ys:Array (Int×Value)}{n:Nat}{t t':SetTable}(h1:h.get? a=some ob)(h2:ob.data=.set xs n t):(h.update a (Obj.putSet ys t')).get? a=some { ob with data:=.set ys (n+1) t' }:=by
 have q:=Heap.get?_update_self (Obj.putSet ys t') h1 (by rw[putSet_of ys t' h2];rfl)
 rwa [putSet_of ys t' h2]at q
section
variable {prog:Program}{w:World}{A:Around}{E:Value→Shared→Prop}{s:Shared}{r S:Addr}{led:Bool}
theorem Zc4 {es:Array (Int×Value)}{t:SetTable}{order:Array Nat}{Q:Array (Int×Value)×SetTable→Shared→Prop}(h:order.toList.Perm (List.range es.size))(q:Q (order.filterMap (es[·]?),t) s):
  wpAny (model prog w) A (do
   let some (t,order):=some (t,order) | unsupported "internal:set-table-without-room"
   let es':=order.filterMap (es[·]?)
   if es'.size != es.size then unsupported "internal:set-table-lost-an-element"
   pure (es',t)) Q E s:=by
 have p:=Zb8 h
 have z:(order.filterMap (es[·]?)).size=es.size:=by rw[←Array.length_toList,p.length_eq,Array.length_toList]
 show wpAny _ A (if ((order.filterMap (es[·]?)).size != es.size)=true then _ else _) _ _ _
 rw[z,bne_self_eq_false,if_neg Bool.false_ne_true]
 exact wpAny_pure q
theorem Zg9 {n:Nat}{Q:Unit→Shared→Prop}(ho:s.heap.get? r=some (Zbr led))(hn:n<scanBound)
  (h:∀h' ep t,Heap.SameBut r s.heap h'→h'.get? r=some { Zbr led with data:=.set #[] ep t }→t.fits 0=true→t.fill=0→t.led=led→t.plain=true→(∃k,t.mask+1=2 ^ k)→n≤t.mask→Q () { s with heap:=h' }):
  wpAny (model prog w) A (setRoomFor r n) Q E s:=by
 have n4:n<4096:=hn
 have hd:(Zbr led).data=.set #[] 0 (.fresh 0 0 led):=rfl
 have hf:(SetTable.fresh 0 0 led).fits (#[]:Array (Int×Value)).size=true:=rfl
 unfold setRoomFor
 refine wpAny_bind (wpAny_setState_of ho hd hf ?_)
 show wpAny _ A (match (SetTable.fresh 0 0 led).roomFor n with | some wanted=>setRelay r wanted | x=>pure PUnit.unit) _ _ _
 have er:(SetTable.fresh 0 0 led).roomFor n=if (0+n)*5≥7*3 then some ((0+n)*2) else none:=rfl
 by_cases c:(0+n)*5≥7*3
 ·rw[er,if_pos c]
  show wpAny _ A (setRelay r ((0+n)*2)) _ _ _
  have a1:=Zep ((0+n)*2) 64 8 ⟨3,rfl⟩
  have big:(8:Nat)*2 ^ 64=147573952589676412928:=by decide
  have a2:=Zfk ((0+n)*2) 64 8 (by rw[big];omega)
  have a3:=Zfj ((0+n)*2) 64 8
  have a4:SetTable.sizeAbove ((0+n)*2)=SetTable.sizeAbove.go ((0+n)*2) 64 8:=rfl
  rw[←a4]at a1 a2 a3
  unfold setRelay
  refine wpAny_bind (wpAny_setState_of ho hd hf ?_)
  dsimp only
  have hz:¬SetTable.sizeAbove ((0+n)*2)>sizeLine:=by
   have:40000≤sizeLine:=by rw[sizeLine_eq];decide
   omega
  rw[if_neg hz]
  obtain⟨k,hk⟩:=a1
  obtain⟨t,order,e,pm,m1,m2,m3,m4,m5⟩:=Zgs (mask:=SetTable.sizeAbove ((0+n)*2)-1) (k:=k) (hs:=(#[]:Array (Int×Value)).map (·.1)) (finger:=0) (moves:=(SetTable.fresh 0 0 led).movedTo (SetTable.sizeAbove ((0+n)*2)-1)) (led:=led) (plain:=true) (by omega) (by simp)
  have e':(SetTable.fresh 0 0 led).relaid ((#[]:Array (Int×Value)).map (·.1)) ((0+n)*2)=some (t,order):=e
  rw[e']
  refine wpAny_bind (Zc4 (es:=#[]) (by simpa using pm) ?_)
  have oz:order.filterMap ((#[]:Array (Int×Value))[·]?)=#[]:=by
   have:=Zb8 (es:=(#[]:Array (Int×Value))) (order:=order) (by simpa using pm)
   have l0:=this.length_eq
   rw[Array.length_toList]at l0
   exact Array.eq_empty_of_size_eq_zero (by simpa using l0)
  rw[oz]
  have z0:t.place.size=0:=by simpa using m2
  have tf:t.fill=0:=by unfold SetTable.fill;rw[z0,m3];rfl
  refine wpAny_storeSet_of ho hd ?_ (fits_of_scanBound (by show 0<4096;decide))
  refine h _ _ t (Heap.SameBut.update _ _ _) (Ze4 ho hd) ?_ tf m4 m5 ⟨k,by rw[m1];omega⟩ (by rw[m1];omega)
  unfold SetTable.fits
  rw[tf,z0];simp
 ·rw[er,if_neg c]
  exact wpAny_pure (h s.heap 0 _ (Heap.SameBut.refl _ _) ho rfl rfl rfl rfl ⟨3,rfl⟩ (by show n≤7;omega))
theorem Zf5 {ls:List (List Nat)}{each:Sem Unit}{Q:Unit→Shared→Prop}(ho:s.heap.get? r=some (Zbr led))(hS:TxSet prog w s.heap S ls led)(ne:r≠S)
  (h:∀h',Heap.SameBut r s.heap h'→TxSet prog w h' r ls led→Q () { s with heap:=h' }):wpAny (model prog w) A (setMerge r S each) Q E s:=by
 obtain⟨o,es,ep,t,ms,hg,hex,hd,hel,hf,hled,hpl,hp,hv,hb⟩:=hS
 have hlen:es.size=ls.length:=by
  have q:=hv.length
  rw[List.length_map,List.length_map]at q
  rw[←Array.length_toList,←q,hp.length_eq]
 unfold setMerge
 have e0:(r == S)=false:=by simpa using ne
 rw[e0,if_neg Bool.false_ne_true]
 refine wpAny_bind (wpAny_setState_of hg hd hf ?_)
 dsimp only
 by_cases z:es.isEmpty=true
 ·rw[if_pos z]
  have:ls=[]:=List.length_eq_zero_iff.mp (by rw[←hlen];simpa using z)
  subst this
  exact wpAny_pure (h s.heap (Heap.SameBut.refl _ _) (ZdM ho))
 rw[if_neg z]
 have npl:t.plain=false:=by
  cases e:t.plain with
  | false=>rfl
  | true=>exact absurd (by simpa using hpl e) z
 refine wpAny_bind (Zg9 ho hb fun h1 ep1 t1 sb1 g1 f1 fl1 l1 p1 k1 n1=>?_)
 refine wpAny_bind (wpAny_setState_of (o:={ Zbr led with data:=.set #[] ep1 t1 }) g1 rfl f1 ?_)
 dsimp only
 have fin:∀(es':Array (Int×Value)) (t':SetTable),es'.toList.Perm es.toList→t'.fits es'.size=true→t'.led=led→t'.plain=false→wpAny (model prog w) A (storeSet r es' t') Q E { s with heap:=h1 }:=fun es' t' pm ft lt pt=>by
  have sz:es'.size=es.size:=by rw[←Array.length_toList,pm.length_eq,Array.length_toList]
  refine wpAny_storeSet_of g1 rfl ?_ (fits_of_scanBound (by rw[sz];exact hb))
  obtain⟨ms',pm',hv'⟩:=Zbs (us:=es.toList.map (·.2)) (us':=es'.toList.map (·.2)) (pm.map _) hv
  exact h _ (sb1.trans (Heap.SameBut.update _ _ _)) ⟨_,es',_,t',ms',Ze4 g1 rfl,⟨rfl,rfl,rfl⟩,rfl,hel.perm pm,ft,lt,fun e=>(by rw[pt]at e;cases e),pm'.trans hp,hv',by rw[sz];exact hb⟩
 unfold SetTable.road
 rw[fl1,bne_self_eq_false,if_neg Bool.false_ne_true]
 by_cases c2:(t1.mask == t.mask&&t.dummies.isEmpty)=true
 ·rw[if_pos c2]
  dsimp only
  exact fin es _ (.refl _) hf (by show (t1.led&&t.led)=led;rw[l1,hled,Bool.and_self]) (by show (t1.plain&&t.plain)=false;rw[npl,Bool.and_false])
 ·rw[if_neg c2]
  dsimp only
  obtain⟨k,hk⟩:=k1
  obtain⟨t2,order,e,pm,m1,m2,m3,m4,m5⟩:=Zgs (mask:=t1.mask) (k:=k) (hs:=es.map (·.1)) (finger:=t1.finger) (moves:=t1.moves) (led:=t1.led&&t.led) (plain:=t1.plain&&t.plain) hk (by rw[Array.size_map];omega)
  rw[e]
  rw[Array.size_map]at pm m2
  refine wpAny_bind (Zc4 pm ?_)
  have pp:=Zb8 pm
  have sz:(order.filterMap (es[·]?)).size=es.size:=by rw[←Array.length_toList,pp.length_eq,Array.length_toList]
  refine fin _ t2 pp ?_ (by rw[m4,l1,hled,Bool.and_self]) (by rw[m5,npl,Bool.and_false])
  unfold SetTable.fits SetTable.fill
  rw[m1,m2,m3,sz]
  simp
  omega
end
theorem ZbD {α:Type}:∀(xs:List α) (i:Nat) (h:i<xs.length),(xs[i]::xs.eraseIdx i).Perm xs
 | x::xs,0,_=>.refl _
 | x::xs,i+1,h=>by
  have hi:i<xs.length:=by simpa using h
  have ih:=ZbD xs i hi
  show (xs[i]::x::xs.eraseIdx i).Perm (x::xs)
  exact(List.Perm.swap _ _ _).trans (ih.cons x)
section
variable {M:Model}{A:Around}{E:Value→Shared→Prop}{s:Shared}
theorem wp_choose' {src:Source}{n:Nat}{Q:Nat→Shared→Prop}(hn:n≠0)(h:∀i d,i<n→Q i { s with drawn:=d }):wpAny M A (choose src n) Q E s:=fun Γ p hΓ=>by
 unfold choose
 rw[Sem.wp_choose]
 exact⟨hn,h _ _ (Nat.mod_lt _ (Nat.pos_of_ne_zero hn))⟩
theorem Zcc {α:Type}:∀(n:Nat) (xs:List α) (s:Shared) (Q:List α→Shared→Prop),xs.length=n→(∀ys d,ys.Perm xs→Q ys { s with drawn:=d })→wpAny M A (drawOrder n xs) Q E s
 | 0,xs,s,Q,hl,h=>by
  have e:xs=[]:=List.eq_nil_of_length_eq_zero hl
  subst e
  unfold drawOrder
  exact wpAny_pure (h [] s.drawn (.refl _))
 | n+1,[],s,Q,hl,h=>by cases hl
 | n+1,x::xs,s,Q,hl,h=>by
  unfold drawOrder
  refine wpAny_bind (wp_choose' (by simp) fun i d hi=>?_)
  have e:(x::xs)[i]?=some (x::xs)[i]:=List.getElem?_eq_getElem hi
  rw[e]
  dsimp only
  refine wpAny_bind (Zcc n ((x::xs).eraseIdx i) _ _ ?_ fun ys d' p=>wpAny_pure ?_)
  ·rw[List.length_eraseIdx_of_lt hi,hl];rfl
  ·refine h _ d' ((List.Perm.cons _ p).trans ?_)
   exact ZbD _ _ hi
end
theorem ZcY:entryFor table "set.__iter__"=some Builtin.«frozenset.__iter__»:=entryFor_alias (id':="frozenset.__iter__") (by kernel_rfl) rfl (by decide +kernel) (by kernel_rfl)
theorem Zaw:Slot "set_iterator" "__next__" "set_iterator.__next__":=
 .of (owner:="set_iterator") (n:="__next__") (by rw[typeLookup_type,builtinLookup_eq_fast];kernel_rfl) (by decide +kernel) (by decide +kernel) (by decide +kernel)
  (by first | exact .inl (by decide +kernel) | exact .inr (by decide +kernel)) (by rw[isSubtype_type];kernel_rfl)
theorem Zbd:entryFor table "set_iterator.__next__"=some Builtin.«set_iterator.__next__»:=entryFor_of_fast (by kernel_rfl)
theorem Zbm (a:Value):argsOk "set_iterator.__next__" ⟨[a],[]⟩:=by unfold argsOk;kernel_rfl
section
variable {prog:Program}{w:World}{A:Around}{E:Value→Shared→Prop}{s:Shared}
def SetIt (h:Heap)(I S:Addr)(first:Value)(i n ep:Nat):Prop:=∃o,h.get? I=some o∧o.cls=.type "set_iterator"∧o.data=.fields #[first,.int i 0,.ref S,.int n 0,.int ep 0]
theorem ZiN {t:SetTable}{n:Nat}(hf:t.fits n=true):(t.place.size != n || decide (t.fill>t.mask))=false:=by
 simp only[SetTable.fits,Bool.and_eq_true,beq_iff_eq,decide_eq_true_eq]at hf
 simp[hf.1,Nat.not_lt.mpr hf.2]
theorem Zht {S:Addr}{o:Obj}{es:Array (Int×Value)}{ep:Nat}{t:SetTable}{Q:Value→Shared→Prop}(ho:s.heap.get? S=some o)(hex:o.ExactSet)(hd:o.data=.set es ep t)(hf:t.fits es.size=true)(hz:es.size≤sizeLine)
  (h0:(ZaF w=true∨(t.plain=true∨es.size≤1))→Q (.ref s.heap.objs.size) { s with heap:=s.heap.push { cls:=.type "set_iterator",data:=.fields #[.int 0 0,.int 0 0,.ref S,.int es.size 0,.int ep 0] } })
  (h1:∀(ps:List Nat) (d:Drawn),ps.Perm (List.range es.size)→Q (.ref (s.heap.objs.size+1)) { s with drawn:=d,heap:=(Heap.push s.heap { cls:=.type "tuple",data:=.seq (ps.map (fun i=>Value.int ((i:Nat):Int) 0)).toArray }).push { cls:=.type "set_iterator",data:=.fields #[.ref s.heap.objs.size,.int 0 0,.ref S,.int es.size 0,.int ep 0] } }):wpAny (model prog w) A (pyIter (.ref S)) Q E s:=by
 have hT:s.TypeIs (.ref S) "set":=⟨o,ho,hex.1⟩
 refine wpAny_pyIter_slot hT F.slot_set_iter (wpAny_call_entry F.slot_set_iter hT ZcY ?_ (F.args_set_iter_1 _))
 unfold Builtin.«frozenset.__iter__» Builtin.Frozenset.sizeOf setDrawn setsByText
 wp_walk
 rw[hd]
 dsimp only
 rw[ZiN hf]
 rw[if_neg Bool.false_ne_true]
 refine wpAny_pure (wpAny_pure (wpAny_pure ?_))
 refine wpAny_bind (wpAny_bind (wpAny_setState_of ho hd hf ?_))
 dsimp only
 refine wpAny_bind (wpAny_bind (wpAny_askSetting (wpAny_pure (wpAny_pure ?_))))
 show wpAny _ _ (if (!ZaF w&&(!t.plain&&decide (es.size>1)))=true then _ else _) _ _ _
 split
 ·refine wpAny_bind (Zcc es.size (List.range es.size) _ _ (by simp) fun ps d p=>?_)
  refine wpAny_bind ?_
  simp only[newTuple]
  refine wpAny_newObj_type ?_ (by show (List.map _ ps).toArray.size≤sizeLine;rw[List.size_toArray,List.length_map,p.length_eq,List.length_range];exact hz)
  refine wpAny_bind (wpAny_setEpoch_of (Heap.get?_push_of_some _ ho) hd hf (wpAny_bind (wpAny_newObj_type (wpAny_pure ⟨_,rfl,"set_iterator",_,⟨_,Heap.get?_push_size _ rfl,rfl⟩,Zaw.lookup,?_⟩))))
  have q:=h1 ps d p
  rw[Heap.size_push]
  exact q
 ·rename_i hb
  refine wpAny_bind (wpAny_pure ?_)
  refine wpAny_bind (wpAny_setEpoch_of ho hd hf (wpAny_bind (wpAny_newObj_type (wpAny_pure ⟨_,rfl,"set_iterator",_,⟨_,Heap.get?_push_size _ rfl,rfl⟩,Zaw.lookup,h0 ?_⟩))))
  cases h:ZaF w with
  | true=>exact .inl rfl
  | false=>
   refine .inr ?_
   cases h':t.plain with
   | true=>exact .inl rfl
   | false=>
    rw[h,h']at hb
    simp at hb
    exact .inr hb
end
section
variable {prog:Program}{w:World}{A:Around}{E:Value→Shared→Prop}{s:Shared}{I S:Addr}{o:Obj}{es:Array (Int×Value)}{ep i n:Nat}{t:SetTable}
theorem SetIt.typ {first:Value}(h:SetIt s.heap I S first i n ep):s.TypeIs (.ref I) "set_iterator":=let ⟨o,h1,h2,_⟩:=h;⟨o,h1,h2⟩
abbrev Zkm (I S:Addr)(slot i ep:Nat):Sem PySem.Fin:=do
 match ←setNext S slot i ep with
 | some (x,next)=>do
  setField (.ref I) 0 (rawInt (next:Nat))
  setField (.ref I) 1 (rawInt ((i:Int)+1))
  ret x
 | none=>do
  setField (.ref I) 2 Value.none
  raiseNew (←newExc (Value.type "StopIteration") [])
abbrev ZiX (I S:Addr)(first:Value)(i ep:Nat):Sem PySem.Fin:=do
 match ←seqItems? first with
 | some places=>match places[i]? with
  | some (.int place _)=>do
   let x ←setNextDrawn S place.toNat ep
   setField (.ref I) 1 (rawInt ((i:Int)+1))
   ret x
  | some _=>unsupported "internal:set_iterator"
  | none=>do
   setField (.ref I) 0 (rawInt 0)
   setField (.ref I) 2 Value.none
   raiseNew (←newExc (Value.type "StopIteration") [])
 | _=>unsupported "internal:set_iterator"
abbrev NxQ (prog:Program)(w:World)(A:Around)(Q:Option Value→Shared→Prop)(E:Value→Shared→Prop)(fin:PySem.Fin)(s':Shared):Prop:=∃v,fin=Fin.done (Flow.ret v)∧Q (some v) s'
abbrev NxE (prog:Program)(w:World)(A:Around)(Q:Option Value→Shared→Prop)(E:Value→Shared→Prop)(e:Value)(s':Shared):Prop:=
 wpAny (model prog w) A (do let b ←isInstance e (Value.type "StopIteration");if b=true then pure none else throw e) Q E s'
theorem ZbX {slot:Nat}{Q:Option Value→Shared→Prop}(hi:SetIt s.heap I S (.int (slot:Nat) 0) i es.size ep)(ho:s.heap.get? S=some o)(hd:o.data=.set es ep t)(hf:t.fits es.size=true)
  (h:wpAny (model prog w) A.in1 (Zkm I S slot i ep) (NxQ prog w A Q E) (NxE prog w A Q E) s):wpAny (model prog w) A (pyNext (.ref I)) Q E s:=by
 obtain⟨oi,hoi,hci,hdi⟩:=id hi
 unfold pyNext
 refine wpAny_bind (wpAny_attempt (wpAny_callSpecial?_slot (name:=Str.ofString "__next__") hi.typ Zaw (wpAny_call_entry Zaw hi.typ Zbd ?_ (Zbm _))))
 unfold Builtin.«set_iterator.__next__»
 wp_walk
 rw[hdi]
 dsimp only
 refine wpAny_pure ?_
 dsimp only
 refine wpAny_bind (wpAny_setEntries_of ho hd hf ?_)
 (try dsimp only)
 rw[if_neg (by simp)]
 refine wpAny_mono h (fun fin s' q=>?_) fun e s' q=>q
 obtain⟨v,rfl,q⟩:=q
 exact⟨v,rfl,wpAny_pure q⟩
theorem Zc9 {tp:Addr}{Q:Option Value→Shared→Prop}(hi:SetIt s.heap I S (.ref tp) i es.size ep)(ho:s.heap.get? S=some o)(hd:o.data=.set es ep t)(hf:t.fits es.size=true)
  (h:wpAny (model prog w) A.in1 (ZiX I S (.ref tp) i ep) (NxQ prog w A Q E) (NxE prog w A Q E) s):wpAny (model prog w) A (pyNext (.ref I)) Q E s:=by
 obtain⟨oi,hoi,hci,hdi⟩:=id hi
 unfold pyNext
 refine wpAny_bind (wpAny_attempt (wpAny_callSpecial?_slot (name:=Str.ofString "__next__") hi.typ Zaw (wpAny_call_entry Zaw hi.typ Zbd ?_ (Zbm _))))
 unfold Builtin.«set_iterator.__next__»
 wp_walk
 rw[hdi]
 dsimp only
 refine wpAny_pure ?_
 dsimp only
 refine wpAny_bind (wpAny_setEntries_of ho hd hf ?_)
 (try dsimp only)
 rw[if_neg (by simp)]
 refine wpAny_mono h (fun fin s' q=>?_) fun e s' q=>q
 obtain⟨v,rfl,q⟩:=q
 exact⟨v,rfl,wpAny_pure q⟩
theorem Zey {Q:Option Value→Shared→Prop}(hh:A.handled=none)(hQ:∀h',(∀b o,s.heap.get? b=some o→h'.get? b=some o)→Q none { s with heap:=h' }):
  wpAny (model prog w) A.in1 (do raiseNew (←newExc (Value.type "StopIteration") [])) (NxQ prog w A Q E) (NxE prog w A Q E) s:=by
 refine wpAny_bind ?_
 simp only[newExc,newTuple]
 refine wpAny_bind (wpAny_newObj_type ?_ (by size_fits))
 refine wpAny_bind (m:=firstArgMember _ _) (wpAny_of_eq (a:=Value.none) (by first | rfl | (simp only[firstArgMember];rfl)) ?_)
 refine wpAny_newObj_type ?_ (by size_fits)
 simp only[raiseNew]
 refine wpAny_bind (wpAny_handled ?_)
 rw[show A.in1.handled=none from hh]
 refine wpAny_bind (wpAny_pure (wpAny_throw ?_))
 refine wpAny_bind (wpAny_isInstance (T:="StopIteration") (b:=true) ⟨_,Heap.get?_push_size _ rfl,rfl⟩ isSubtype_stop ?_)
 exact wpAny_pure (hQ _ fun b o e=>Heap.get?_push_of_some _ (Heap.get?_push_of_some _ e))
theorem Zdb {h:Heap} {v:Value} {k:Nat} {oi:Obj} {vs:Array Value} (hoi:h.get? I=some oi) (hci:oi.cls=.type "set_iterator") (hdi:oi.data=.fields vs):
  ∃o',(h.update I (Obj.mapFields (·.setIfInBounds k v))).get? I=some o'∧o'.cls=.type "set_iterator"∧o'.data=.fields (vs.setIfInBounds k v):=
 ⟨_,Heap.get?_update_self _ hoi (Obj.isFreed_of_fields (Obj.data_mapFields hdi _)),(Obj.cls_mapFields ..).trans hci,Obj.data_mapFields hdi _⟩
theorem Zcu {slot:Nat}{Q:Option (Value×Nat)→Shared→Prop}(ho:s.heap.get? S=some o)(hd:o.data=.set es ep t)(hf:t.fits es.size=true)(hb:ZaF w=true)
  (h:Q (((pickOrder (w.params.setOrder S ep) es)[i]?).map fun e=>(e.2,slot)) s):wpAny (model prog w) A (setNext S slot i ep) Q E s:=by
 unfold setNext
 refine wpAny_bind (wpAny_setState_of ho hd hf ?_)
 dsimp only
 unfold setsByText
 refine wpAny_bind (wpAny_bind (wpAny_askSetting (wpAny_pure ?_)))
 show wpAny _ _ (if ZaF w=true then _ else _) _ _ _
 rw[hb,if_pos rfl,if_neg (by simp)]
 unfold setWalk
 refine wpAny_bind (wpAny_bind (wpAny_setState_of ho hd hf ?_))
 dsimp only
 unfold setsByText
 refine wpAny_bind (wpAny_bind (wpAny_askSetting (wpAny_pure ?_)))
 show wpAny _ _ (if ZaF w=true then _ else _) _ _ _
 rw[hb,if_pos rfl]
 exact wpAny_bind (wpAny_askSetting (wpAny_pure (wpAny_pure h)))
theorem Zcv {slot:Nat}{Q:Option (Value×Nat)→Shared→Prop}(ho:s.heap.get? S=some o)(hd:o.data=.set es ep t)(hf:t.fits es.size=true)(hb:ZaF w=false)(hl:t.led=true)(h1:es.size≤1)
  (h:Q (match es[SetTable.below t.place slot]?,t.place[SetTable.below t.place slot]? with | some (_,x),some j=>some (x,j+1) | _,_=>none) s):wpAny (model prog w) A (setNext S slot i ep) Q E s:=by
 unfold setNext
 refine wpAny_bind (wpAny_setState_of ho hd hf ?_)
 dsimp only
 unfold setsByText
 refine wpAny_bind (wpAny_bind (wpAny_askSetting (wpAny_pure ?_)))
 show wpAny _ _ (if ZaF w=true then _ else (if (!t.plain&&decide (es.size>1))=true then _ else _)) _ _ _
 have hn:¬es.size>1:=by omega
 rw[hb,if_neg Bool.false_ne_true,decide_eq_false hn,Bool.and_false,if_neg Bool.false_ne_true]
 show wpAny _ _ ((if (!t.led&&!es.isEmpty)=true then (do let _ ←(unsupported "set:maker-not-led":Sem Unit);pure ()) else pure ()) >>= fun _=>_) _ _ _
 rw[hl,Bool.not_true,Bool.false_and,if_neg Bool.false_ne_true]
 exact wpAny_bind (wpAny_pure (wpAny_pure h))
end
theorem ZdV {α:Type}{next:Nat→Nat}:∀(fuel k:Nat) (left:List α) (out:Array α),left.length=fuel→(pickOrder.go next fuel k left out).toList.Perm (out.toList++left)
 | 0,k,left,out,h=>by
  have e:left=[]:=List.eq_nil_of_length_eq_zero h
  subst e
  unfold pickOrder.go
  simp
 | fuel+1,k,left,out,h=>by
  have hlt:next k % left.length<left.length:=Nat.mod_lt _ (by omega)
  unfold pickOrder.go
  rw[List.getElem?_eq_getElem hlt]
  dsimp only
  refine(ZdV fuel (k+1) _ _ (by rw[List.length_eraseIdx_of_lt hlt,h];rfl)).trans ?_
  rw[Array.toList_push,List.append_assoc]
  exact(ZbD left _ hlt).append_left _
theorem Za3 {α:Type}{next:Nat→Nat}{xs:Array α}:(pickOrder next xs).toList.Perm xs.toList:=by
 unfold pickOrder
 have:=ZdV (next:=next) xs.size 0 xs.toList #[] (by simp)
 simpa using this
theorem Zbg:Slot "set_iterator" "__iter__" "set_iterator.__iter__":=
 .of (owner:="set_iterator") (n:="__iter__") (by rw[typeLookup_type,builtinLookup_eq_fast];kernel_rfl) (by decide +kernel) (by decide +kernel) (by decide +kernel) (by first | exact .inl (by decide +kernel) | exact .inr (by decide +kernel)) (by rw[isSubtype_type];kernel_rfl)
theorem Zb1:entryFor table "set_iterator.__iter__"=some Builtin.«dict_keyiterator.__iter__»:=entryFor_alias (id':="dict_keyiterator.__iter__") (by kernel_rfl) rfl (by decide +kernel) (by kernel_rfl)
theorem Zcb (a:Value):argsOk "set_iterator.__iter__" ⟨[a],[]⟩:=by unfold argsOk;kernel_rfl
section
variable {prog:Program}{w:World}{A:Around}{E:Value→Shared→Prop}{s:Shared}{I S:Addr}{o:Obj}{es:Array (Int×Value)}{ep i n:Nat}{t:SetTable}
theorem ZcM {first:Value}{Q:Value→Shared→Prop}(hi:SetIt s.heap I S first i n ep)(h:Q (.ref I) s):wpAny (model prog w) A (pyIter (.ref I)) Q E s:=by
 refine wpAny_pyIter_slot hi.typ Zbg (wpAny_call_entry Zbg hi.typ Zb1 ?_ (Zcb _))
 show wpAny _ _ (ret (.ref I)) _ _ s
 exact wpAny_pure ⟨_,rfl,"set_iterator",_,hi.typ,Zaw.lookup,h⟩
theorem ZbC {h h':Heap}{o:Obj}(sb:Heap.SameBut I h h')(hne:S≠I)(ho:h.get? S=some o):h'.get? S=some o:=(sb.2 S hne).trans ho
theorem ZfO (hh:A.handled=none)(hne:S≠I)(hd:o.data=.set es ep t)(hf:t.fits es.size=true)(hb:ZaF w=true):
  Walks prog w A I [I,S] [I] es.size (fun i v=>(((pickOrder (w.params.setOrder S ep) es).toList).map (·.2))[i]?=some v) (fun i h=>SetIt h I S (.int ((0:Nat):Int) 0) i es.size ep∧h.get? S=some o) where
 sub:=fun b hb=>by simp at hb;simp[hb]
 frame:=fun i h h' ⟨⟨oi,h1,r⟩,h2⟩ hk=>⟨⟨oi,hk I (by simp) _ h1,r⟩,hk S (by simp) _ h2⟩
 item:=fun i s Q E hi ⟨st,ho⟩ hQ=>by
  have hl:(pickOrder (w.params.setOrder S ep) es).size=es.size:=by rw[←Array.length_toList,Za3.length_eq,Array.length_toList]
  have he:(pickOrder (w.params.setOrder S ep) es)[i]?=some (pickOrder (w.params.setOrder S ep) es)[i]:=by simp[hl,hi]
  refine ZbX st ho hd hf (wpAny_bind (Zcu ho hd hf hb ?_))
  rw[he]
  dsimp only[Option.map_some]
  obtain⟨oi,g1,g2,g3⟩:=id st
  refine wpAny_bind (wpAny_setField g1 g3 (by simp) ?_)
  obtain⟨o1,k1,k2,k3⟩:=Zdb (v:=rawInt ((0:Nat):Int)) (k:=0) g1 g2 g3
  refine wpAny_bind (wpAny_setField k1 k3 (by simp) ?_)
  obtain⟨o2,m1,m2,m3⟩:=Zdb (v:=rawInt ((i:Int)+1)) (k:=1) k1 k2 k3
  have sb:=(Heap.SameBut.update s.heap I (Obj.mapFields (·.setIfInBounds 0 (rawInt ((0:Nat):Int))))).trans (Heap.SameBut.update _ I (Obj.mapFields (·.setIfInBounds 1 (rawInt ((i:Int)+1)))))
  refine wpAny_pure ⟨_,rfl,hQ _ _ s.toks ?_ ⟨⟨o2,m1,m2,?_⟩,ZbC sb hne ho⟩ fun b o hb e=>(sb.2 b (by simpa using hb)).trans e⟩
  ·rw[List.getElem?_map,Array.getElem?_toList,he];rfl
  ·rw[m3];simp[rawInt]
 done:=fun s Q E ⟨st,ho⟩ hQ=>by
  have hl:(pickOrder (w.params.setOrder S ep) es).size=es.size:=by rw[←Array.length_toList,Za3.length_eq,Array.length_toList]
  have he:(pickOrder (w.params.setOrder S ep) es)[es.size]?=none:=by simp[hl]
  refine ZbX st ho hd hf (wpAny_bind (Zcu ho hd hf hb ?_))
  rw[he]
  dsimp only[Option.map_none]
  obtain⟨oi,g1,g2,g3⟩:=id st
  refine wpAny_bind (wpAny_setField g1 g3 (by simp) ?_)
  have sb:=Heap.SameBut.update s.heap I (Obj.mapFields (·.setIfInBounds 2 Value.none))
  exact Zey (A:=A) hh fun h' k=>hQ h' s.toks fun b o hb e=>k b o ((sb.2 b (by simpa using hb)).trans e)
 self:=fun i s Q E ⟨st,_⟩ hQ=>ZcM st hQ
def Zb9 (t:SetTable)(i:Nat):Nat:=if i=0 then 0 else t.place.getD 0 0+1
theorem ZfK {xs:Array Nat}:SetTable.below xs 0=0:=by
 unfold SetTable.below
 have all:∀fuel hi,SetTable.below.go xs 0 fuel 0 hi=0:=by
  intro fuel
  induction fuel with
  | zero=>intro hi;unfold SetTable.below.go;rfl
  | succ f ih=>
   intro hi
   unfold SetTable.below.go
   split
   ·rw[if_neg (Nat.not_lt_zero _)];exact ih _
   ·rfl
 exact all _ _
theorem ZgW {j:Nat}:SetTable.below #[j] (j+1)=1:=by
 unfold SetTable.below
 show SetTable.below.go #[j] (j+1) 1 0 1=1
 unfold SetTable.below.go
 simp[SetTable.below.go]
theorem ZjQ {xs:Array Nat}(h:xs.size=1):∃j,xs=#[j]:=by
 obtain⟨l⟩:=xs
 match l,h with
 | [j],_=>exact⟨j,rfl⟩
theorem ZfP (hh:A.handled=none)(hne:S≠I)(hd:o.data=.set es ep t)(hf:t.fits es.size=true)(hb:ZaF w=false)(hl:t.led=true)(h1:es.size≤1):
  Walks prog w A I [I,S] [I] es.size (fun i v=>(es.toList.map (·.2))[i]?=some v) (fun i h=>SetIt h I S (.int ((Zb9 t i:Nat):Int) 0) i es.size ep∧h.get? S=some o) where
 sub:=fun b hb=>by simp at hb;simp[hb]
 frame:=fun i h h' ⟨⟨oi,h1,r⟩,h2⟩ hk=>⟨⟨oi,hk I (by simp) _ h1,r⟩,hk S (by simp) _ h2⟩
 item:=fun i s Q E hi ⟨st,ho⟩ hQ=>by
  have i0:i=0:=by omega
  subst i0
  have ps:t.place.size=es.size:=by
   have:=hf
   simp only[SetTable.fits,Bool.and_eq_true,beq_iff_eq]at this
   exact this.1
  have he:es[0]?=some es[0]:=by simp[hi]
  have hp:t.place[0]?=some (t.place.getD 0 0):=by
   have:0<t.place.size:=by omega
   simp[this]
  refine ZbX st ho hd hf (wpAny_bind (Zcv ho hd hf hb hl h1 ?_))
  rw[show Zb9 t 0=0 from rfl,ZfK,he,hp]
  dsimp only
  obtain⟨oi,g1,g2,g3⟩:=id st
  refine wpAny_bind (wpAny_setField g1 g3 (by simp) ?_)
  obtain⟨o1,k1,k2,k3⟩:=Zdb (v:=rawInt ((t.place.getD 0 0+1:Nat):Int)) (k:=0) g1 g2 g3
  refine wpAny_bind (wpAny_setField k1 k3 (by simp) ?_)
  obtain⟨o2,m1,m2,m3⟩:=Zdb (v:=rawInt (((0:Nat):Int)+1)) (k:=1) k1 k2 k3
  have sb:=(Heap.SameBut.update s.heap I (Obj.mapFields (·.setIfInBounds 0 (rawInt ((t.place.getD 0 0+1:Nat):Int))))).trans (Heap.SameBut.update _ I (Obj.mapFields (·.setIfInBounds 1 (rawInt (((0:Nat):Int)+1)))))
  refine wpAny_pure ⟨_,rfl,hQ _ _ s.toks ?_ ⟨⟨o2,m1,m2,?_⟩,ZbC sb hne ho⟩ fun b o hb e=>(sb.2 b (by simpa using hb)).trans e⟩
  ·rw[List.getElem?_map,Array.getElem?_toList,he];rfl
  ·rw[m3];simp[rawInt,Zb9]
 done:=fun s Q E ⟨st,ho⟩ hQ=>by
  have ps:t.place.size=es.size:=by
   have:=hf
   simp only[SetTable.fits,Bool.and_eq_true,beq_iff_eq]at this
   exact this.1
  have hn:es[SetTable.below t.place (Zb9 t es.size)]?=none:=by
   have hz:es.size=0∨es.size=1:=by omega
   rcases hz with z | z
   ·simp[z]
   ·have e1:∃j,t.place=#[j]:=by
     have:t.place.size=1:=by omega
     exact ZjQ this
    obtain⟨j,ej⟩:=e1
    have:Zb9 t es.size=j+1:=by unfold Zb9;rw[if_neg (by omega),ej];rfl
    rw[this,ej,ZgW]
    simp[z]
  refine ZbX st ho hd hf (wpAny_bind (Zcv ho hd hf hb hl h1 ?_))
  rw[hn]
  dsimp only
  obtain⟨oi,g1,g2,g3⟩:=id st
  refine wpAny_bind (wpAny_setField g1 g3 (by simp) ?_)
  have sb:=Heap.SameBut.update s.heap I (Obj.mapFields (·.setIfInBounds 2 Value.none))
  exact Zey (A:=A) hh fun h' k=>hQ h' s.toks fun b o hb e=>k b o ((sb.2 b (by simpa using hb)).trans e)
 self:=fun i s Q E ⟨st,_⟩ hQ=>ZcM st hQ
theorem Zfz {p:Nat}{e:Int×Value}{Q:Value→Shared→Prop}(ho:s.heap.get? S=some o)(hd:o.data=.set es ep t)(hf:t.fits es.size=true)(he:es[p]?=some e)(h:Q e.2 s):wpAny (model prog w) A (setNextDrawn S p ep) Q E s:=by
 unfold setNextDrawn
 refine wpAny_bind (wpAny_setState_of ho hd hf ?_)
 dsimp only
 rw[if_neg (by simp),he]
 exact wpAny_pure h
theorem Zer {tp:Addr}{ps:List Nat}(hh:A.handled=none)(hne:S≠I)(hnt:tp≠I)(hd:o.data=.set es ep t)(hf:t.fits es.size=true)(hp:ps.Perm (List.range es.size)):
  Walks prog w A I [I,S,tp] [I] es.size (fun i v=>(ps.map fun p=>(es.getD p (0,.none)).2)[i]?=some v) (fun i h=>SetIt h I S (.ref tp) i es.size ep∧h.get? S=some o∧h.get? tp=some { cls:=.type "tuple",data:=.seq (ps.map (fun i=>Value.int ((i:Nat):Int) 0)).toArray }) where
 sub:=fun b hb=>by simp at hb;simp[hb]
 frame:=fun i h h' ⟨⟨oi,h1,r⟩,h2,h3⟩ hk=>⟨⟨oi,hk I (by simp) _ h1,r⟩,hk S (by simp) _ h2,hk tp (by simp) _ h3⟩
 item:=fun i s Q E hi ⟨st,ho,ht⟩ hQ=>by
  have hl:ps.length=es.size:=by rw[hp.length_eq,List.length_range]
  have hi':i<ps.length:=by omega
  have hpi:ps[i]?=some ps[i]:=List.getElem?_eq_getElem hi'
  have hlt:ps[i]<es.size:=List.mem_range.mp (hp.mem_iff.mp (List.getElem_mem hi'))
  have he:es[ps[i]]?=some es[ps[i]]:=by simp[hlt]
  refine Zc9 st ho hd hf (wpAny_bind (wpAny_seqItems ht rfl ?_))
  dsimp only
  have hx:((ps.map (fun i=>Value.int ((i:Nat):Int) 0)).toArray)[i]?=some (Value.int ((ps[i]:Nat):Int) 0):=by simp[hpi]
  rw[hx]
  dsimp only
  refine wpAny_bind (Zfz ho hd hf he ?_)
  obtain⟨oi,g1,g2,g3⟩:=id st
  refine wpAny_bind (wpAny_setField g1 g3 (by simp) ?_)
  obtain⟨o2,m1,m2,m3⟩:=Zdb (v:=rawInt ((i:Int)+1)) (k:=1) g1 g2 g3
  have sb:=Heap.SameBut.update s.heap I (Obj.mapFields (·.setIfInBounds 1 (rawInt ((i:Int)+1))))
  refine wpAny_pure ⟨_,rfl,hQ _ _ s.toks ?_ ⟨⟨o2,m1,m2,?_⟩,ZbC sb hne ho,ZbC sb hnt ht⟩ fun b o hb e=>(sb.2 b (by simpa using hb)).trans e⟩
  ·rw[List.getElem?_map,hpi];simp[hlt]
  ·rw[m3];simp[rawInt]
 done:=fun s Q E ⟨st,ho,ht⟩ hQ=>by
  have hl:ps.length=es.size:=by rw[hp.length_eq,List.length_range]
  refine Zc9 st ho hd hf (wpAny_bind (wpAny_seqItems ht rfl ?_))
  dsimp only
  have hx:((ps.map (fun i=>Value.int ((i:Nat):Int) 0)).toArray)[es.size]?=none:=by simp[hl]
  rw[hx]
  dsimp only
  obtain⟨oi,g1,g2,g3⟩:=id st
  refine wpAny_bind (wpAny_setField g1 g3 (by simp) ?_)
  obtain⟨o1,k1,k2,k3⟩:=Zdb (v:=rawInt 0) (k:=0) g1 g2 g3
  refine wpAny_bind (wpAny_setField k1 k3 (by simp) ?_)
  have sb:=(Heap.SameBut.update s.heap I (Obj.mapFields (·.setIfInBounds 0 (rawInt 0)))).trans (Heap.SameBut.update _ I (Obj.mapFields (·.setIfInBounds 2 Value.none)))
  exact Zey (A:=A) hh fun h' k=>hQ h' s.toks fun b o hb e=>k b o ((sb.2 b (by simpa using hb)).trans e)
 self:=fun i s Q E ⟨st,_⟩ hQ=>ZcM st hQ
end
theorem ZbE {α:Type}(xs:Array α)(i:Nat):(SetTable.eraseAt xs i).toList=xs.toList.eraseIdx i:=by
 rw[List.eraseIdx_eq_take_drop_succ]
 simp[SetTable.eraseAt,List.extract_eq_take_drop,List.take_of_length_le]
theorem ZeJ {α:Type}(xs:Array α)(p:Nat)(x:α):(SetTable.insertAt xs p x).size=xs.size+1:=by
 have:=(SetTable.insertAt_perm xs p x).length_eq
 rw[Array.length_toList,Array.length_toList,Array.size_push]at this
 exact this
theorem Zc1:∀ {vs:List V} {us:List Value} (j:Nat),Vals vs us→Vals (vs.eraseIdx j) (us.eraseIdx j)
 | [],_,j,r=>by cases r;exact .nil
 | v::vs,us,j,r=>by
  cases r with
  | cons r1 r2=>
   cases j with
   | zero=>exact r2
   | succ j=>exact .cons r1 (Zc1 j r2)
theorem ZcG {α β:Type}(f:α→β):∀(l:List α) (j:Nat),(l.eraseIdx j).map f=(l.map f).eraseIdx j
 | [],j=>rfl
 | x::l,0=>rfl
 | x::l,j+1=>by
  show f x::(l.eraseIdx j).map f=f x::(l.map f).eraseIdx j
  rw[ZcG f l j]
def Zbw (ls:List (List Nat))(l:List Nat):List (List Nat):=if l∈ls then ls.erase l else ls++[l]
def xorT (a b:List (List Nat)):List (List Nat):=a.filter (fun x=>decide (x∉b))++b.filter (fun x=>decide (x∉a))
theorem ZiM {ls:List (List Nat)}{l:List Nat}(h:ls.Nodup):(Zbw ls l).Nodup:=by
 unfold Zbw
 split
 ·exact h.erase l
 ·rename_i n
  rw[List.nodup_append]
  refine⟨h,by simp,fun a ha b hb e=>?_⟩
  have:b=l:=by simpa using hb
  subst e this
  exact n ha
theorem ZhD {ls:List (List Nat)}{l x:List Nat}(h:ls.Nodup):x∈Zbw ls l↔(if x=l then l∉ls else x∈ls):=by
 unfold Zbw
 by_cases e:x=l
 ·subst e
  rw[if_pos rfl]
  split
  ·rename_i hm
   exact⟨fun z=>absurd z (h.not_mem_erase),fun z=>absurd hm z⟩
  ·rename_i hm
   exact⟨fun _=>hm,fun _=>by simp⟩
 ·rw[if_neg e]
  split
  ·exact List.mem_erase_of_ne e
  ·simp[e]
theorem ZhE {ls:List (List Nat)}{l:List Nat}:(Zbw ls l).length≤ls.length+1:=by
 unfold Zbw
 split
 ·exact Nat.le_succ_of_le (List.length_erase_le)
 ·simp
theorem Zee:∀(xs ls:List (List Nat)),ls.Nodup→xs.Nodup→(xs.foldl Zbw ls).Nodup∧∀y,y∈xs.foldl Zbw ls↔(if y∈xs then y∉ls else y∈ls)
 | [],ls,h,_=>⟨h,fun y=>by simp⟩
 | x::xs,ls,h,hx=>by
  have hx':=List.nodup_cons.mp hx
  obtain⟨a,b⟩:=Zee xs (Zbw ls x) (ZiM h) hx'.2
  refine⟨a,fun y=>?_⟩
  rw[List.foldl_cons,b y,ZhD h]
  by_cases e:y=x
  ·subst e
   rw[if_neg hx'.1,if_pos rfl,if_pos List.mem_cons_self]
  ·rw[if_neg e]
   by_cases m:y∈xs
   ·rw[if_pos m,if_pos (List.mem_cons_of_mem _ m)]
   ·rw[if_neg m,if_neg (fun z=>by rcases List.mem_cons.mp z with q | q;exact e q;exact m q)]
theorem ZhC {xs a b:List (List Nat)}(ha:a.Nodup)(hb:b.Nodup)(p:xs.Perm a):(xs.foldl Zbw b).Perm (xorT a b):=by
 obtain⟨h1,h2⟩:=Zee xs b hb (p.nodup_iff.mpr ha)
 have nd:(xorT a b).Nodup:=by
  unfold xorT
  rw[List.nodup_append]
  refine⟨ha.filter _,hb.filter _,fun x hx y hy e=>?_⟩
  subst e
  have:=(List.mem_filter.mp hx).2
  exact absurd (List.mem_filter.mp hy).1 (of_decide_eq_true this)
 refine(List.perm_ext_iff_of_nodup h1 nd).mpr fun y=>?_
 have mx:y∈xs↔y∈a:=p.mem_iff
 rw[h2]
 unfold xorT
 rw[List.mem_append,List.mem_filter,List.mem_filter,decide_eq_true_iff,decide_eq_true_iff]
 by_cases m:y∈a
 ·rw[if_pos (mx.mpr m)];simp[m]
 ·rw[if_neg (fun z=>m (mx.mp z))];simp[m]
theorem ZiO {t:SetTable}{n:Nat}(h1:t.place.size=n)(h2:t.fill≤t.mask):t.fits n=true:=by
 unfold SetTable.fits
 rw[h1,decide_eq_true h2];simp
theorem TxSet.perm {P:Program}{w:World}{h:Heap}{a:Addr}{ls ls':List (List Nat)}{led:Bool}(x:TxSet P w h a ls led)(p:ls.Perm ls'):TxSet P w h a ls' led:=by
 obtain⟨o,es,ep,t,ms,h1,h2,h3,h4,h5,h6,h7,h8,r⟩:=x
 exact⟨o,es,ep,t,ms,h1,h2,h3,h4,h5,h6,h7,h8.trans p,r⟩
section
variable {prog:Program}{w:World}{A:Around}{E:Value→Shared→Prop}{s:Shared}{r S:Addr}{led:Bool}
theorem ZeA {a:Addr}{ls:List (List Nat)}{l:List Nat}{tk:Tok}{Q:Bool→Shared→Prop}(hS:TxSet prog w s.heap a ls led)
  (h1:∀h',Heap.SameBut a s.heap h'→l∈ls→TxSet prog w h' a (ls.erase l) led→Q true { s with heap:=h' }) (h2:l∉ls→Q false s):
  wpAny (model prog w) A (setDiscardHashed a (.str ⟨l.toArray⟩ tk) (keyH w (Sum.inr ⟨l.toArray⟩))) Q E s:=by
 obtain⟨o,es,ep,t,ms,ho,hex,hd,hel,hf,hled,hpl,hp,hv,hb⟩:=hS
 have hkey:(ZaT prog w).is (Sum.inr (⟨l.toArray⟩:Str)) (.str ⟨l.toArray⟩ tk)=true:=ZcE prog w _ _
 have hsc:(Value.str ⟨l.toArray⟩ tk).scannable=true:=rfl
 have mem:=Zdi (l:=l) hv
 have hl:l∈ms↔l∈ls:=hp.mem_iff
 unfold setDiscardHashed setFind setFindIn
 refine wpAny_bind (wpAny_bind (wpAny_setState_of ho hd hf ?_))
 dsimp only
 rw[byScan_of hsc hb hel,if_pos rfl]
 refine wpAny_bind (wpAny_rule (wpAny_bind (wpAny_setScan_of (knd:=ZaT prog w) (k:=Sum.inr (⟨l.toArray⟩:Str)) hkey ho hd hf hel ?_)))
 cases hr:List.findIdx? (fun e=>(ZaT prog w).is (Sum.inr (⟨l.toArray⟩:Str)) e.2) es.toList with
 | none=>
  dsimp only
  have hnin:l∉ls:=fun z=>by
   obtain⟨e,he,hk⟩:=mem.mpr (hl.mpr z)
   have q:=List.findIdx?_eq_none_iff.mp hr e he
   rw[show (ZaT prog w).is (Sum.inr (⟨l.toArray⟩:Str)) e.2=true from hk]at q
   cases q
  exact wpAny_pure (wpAny_pure (h2 hnin))
 | some j=>
  dsimp only
  obtain⟨hj,hpj,_⟩:=List.findIdx?_eq_some_iff_getElem.mp hr
  have hin:l∈ls:=hl.mp (mem.mp ⟨es.toList[j],List.getElem_mem hj,hpj⟩)
  have hj':j<es.size:=by simpa using hj
  refine wpAny_pure ?_
  rw[Nat.zero_add]
  refine wpAny_bind (wpAny_setState_of ho hd hf ?_)
  dsimp only
  have mj:ms[j]?=some l:=by
   have e1:(es.toList.map (·.2))[j]?=some es.toList[j].2:=by rw[List.getElem?_map,List.getElem?_eq_getElem hj];rfl
   obtain⟨v,hv1,rv⟩:=Zco hv e1
   rw[List.getElem?_map]at hv1
   cases q:ms[j]? with
   | none=>rw[q]at hv1;cases hv1
   | some m=>
    rw[q]at hv1
    cases hv1
    have:=Zkd (l:=l) rv ⟨m,rfl⟩
    rw[show Zck (Sum.inr (⟨l.toArray⟩:Str):Key) es.toList[j].2=true from hpj,Zcg]at this
    rw[of_decide_eq_true this.symm]
  obtain⟨jm,em⟩:=List.getElem?_eq_some_iff.mp mj
  have sz:(SetTable.eraseAt es j).size=es.size-1:=by
   rw[←Array.length_toList,ZbE,List.length_eraseIdx_of_lt hj,Array.length_toList]
  have hfit:t.place.size=es.size∧t.fill≤t.mask:=by
   simp only[SetTable.fits,Bool.and_eq_true,beq_iff_eq,decide_eq_true_eq]at hf
   exact hf
  have td:(t.drop j).fits (SetTable.eraseAt es j).size=true∧(t.drop j).led=t.led∧(t.drop j).plain=t.plain:=by
   unfold SetTable.drop
   have e:t.place[j]?=some (t.place[j]'(by omega)):=getElem?_pos _ _ (by omega)
   rw[e]
   have ps:(SetTable.eraseAt t.place j).size=es.size-1:=by
    rw[←Array.length_toList,ZbE,List.length_eraseIdx_of_lt (by rw[Array.length_toList];omega),Array.length_toList,hfit.1]
   have h2:=hfit.2
   unfold SetTable.fill at h2
   refine⟨ZiO (ps.trans sz.symm) ?_,rfl,rfl⟩
   show (SetTable.eraseAt t.place j).size+(SetTable.insertAt t.dummies (SetTable.below t.dummies (t.place[j]'(by omega))) (t.place[j]'(by omega))).size≤t.mask
   rw[ps,ZeJ]
   omega
  refine wpAny_bind (wpAny_storeSet_of ho hd (wpAny_bind (wpAny_point (wpAny_pure (h1 _ (Heap.SameBut.update _ _ _) hin ?_)))) (fits_of_scanBound (by rw[sz];omega)))
  refine⟨_,SetTable.eraseAt es j,_,t.drop j,ms.eraseIdx j,Ze4 ho hd,hex,rfl,fun e he=>hel e (List.mem_of_mem_eraseIdx (by rw[←ZbE];exact he)),td.1,td.2.1.trans hled,fun e=>by
   rw[td.2.2]at e
   have:=hpl e
   rw[sz];omega,?_,?_,by rw[sz];omega⟩
  ·have p1:(l::ms.eraseIdx j).Perm ms:=by
    have:=ZbD ms j jm
    rw[em]at this
    exact this
   exact(p1.trans (hp.trans (List.perm_cons_erase hin))).cons_inv
  ·rw[ZbE,ZcG,ZcG]
   exact Zc1 j hv
end
theorem Zd9:typeLookup (.type "set") "__len__"=pure (some (.builtin "set.__len__")):=by rw[typeLookup_type,builtinLookup_eq_fast];kernel_rfl
section
variable {prog:Program}{w:World}{A:Around}{E:Value→Shared→Prop}{s:Shared}
theorem Zfn {es:Array (Int×Value)}{ps:List Nat}(hp:ps.Perm (List.range es.size)):(ps.map fun p=>(es.getD p (0,.none)).2).Perm (es.toList.map (·.2)):=by
 have q:=hp.map (fun p=>(es.getD p (0,.none)).2)
 refine q.trans (.of_eq ?_)
 apply List.ext_getElem
 ·simp
 ·intro n h1 h2
  have hn:n<es.size:=by simpa using h2
  simp[hn]
theorem ZfF {S:Addr}{ls:List (List Nat)}{Q:Value→Shared→Prop}(hS:TxSet prog w s.heap S ls (!ZaF w))
  (h:∀(h2:Heap) (d:Drawn) (I:Addr) (fp:List Addr) (vs:List Value) (ms:List (List Nat)) (St:Nat→Heap→Prop),(∀A':Around,A'.handled=none→Walks prog w A' I fp [I] ls.length (fun i v=>vs[i]?=some v) St)→St 0 h2 →
   (∀b∈fp,b=S∨s.heap.objs.size≤b)→s.heap.objs.size≤I→(∀b o,s.heap.get? b=some o→h2.get? b=some o)→ms.Perm ls→Vals (ms.map tx) vs→Q (.ref I) { s with heap:=h2,drawn:=d }):
  wpAny (model prog w) A (pyIter (.ref S)) Q E s:=by
 obtain⟨o,es,ep,t,ms,ho,hex,hd,hel,hf,hled,hpl,hp,hv,hb⟩:=hS
 have hlen:es.size=ls.length:=by
  have q:=hv.length
  rw[List.length_map,List.length_map]at q
  rw[←Array.length_toList,←q,hp.length_eq]
 have hlt:=Heap.lt_size ho
 refine Zht ho hex hd hf (fits_of_scanBound hb) (fun hc=>?_) fun ps d pp=>?_
 ·have nI:S≠s.heap.objs.size:=Nat.ne_of_lt hlt
  have st:(s.heap.push ({ cls:=.type "set_iterator",data:=.fields #[.int 0 0,.int 0 0,.ref S,.int es.size 0,.int ep 0] }:Obj)).get? s.heap.objs.size=some { cls:=.type "set_iterator",data:=.fields #[.int 0 0,.int 0 0,.ref S,.int es.size 0,.int ep 0] }:=Heap.get?_push_size _ rfl
  have fp:∀b∈[s.heap.objs.size,S],b=S∨s.heap.objs.size≤b:=fun b hb=>by
   rcases List.mem_cons.mp hb with z | z
   ·exact .inr (Nat.le_of_eq z.symm)
   ·exact .inl (by simpa using z)
  cases hby:ZaF w with
  | true=>
   obtain⟨ms',p',r'⟩:=Zbs ((Za3 (next:=w.params.setOrder S ep) (xs:=es)).map (·.2)) hv
   have W:∀A':Around,A'.handled=none→_:=fun A' hA=>ZfO (prog:=prog) (w:=w) (A:=A') (I:=s.heap.objs.size) (S:=S) (o:=o) hA nI hd hf hby
   rw[hlen]at W
   exact h _ s.drawn _ _ _ ms' _ W ⟨⟨_,st,rfl,by rw[hlen];rfl⟩,Heap.get?_push_of_some _ ho⟩ fp (Nat.le_refl _) (fun b o e=>Heap.get?_push_of_some _ e) (p'.trans hp) r'
  | false=>
   have h1:es.size≤1:=by
    rcases hc with z | z | z
    ·rw[hby]at z;cases z
    ·rw[hpl z];exact Nat.zero_le _
    ·exact z
   have hl:t.led=true:=by rw[hled,hby];rfl
   have W:∀A':Around,A'.handled=none→_:=fun A' hA=>ZfP (prog:=prog) (w:=w) (A:=A') (I:=s.heap.objs.size) (S:=S) (o:=o) hA nI hd hf hby hl h1
   rw[hlen]at W
   exact h _ s.drawn _ _ _ ms _ W ⟨⟨_,st,rfl,by rw[hlen];rfl⟩,Heap.get?_push_of_some _ ho⟩ fp (Nat.le_refl _) (fun b o e=>Heap.get?_push_of_some _ e) hp hv
 ·have nI:S≠s.heap.objs.size+1:=Nat.ne_of_lt (Nat.lt_succ_of_lt hlt)
  have nT:s.heap.objs.size≠s.heap.objs.size+1:=Nat.ne_of_lt (Nat.lt_succ_self _)
  obtain⟨ms',p',r'⟩:=Zbs (Zfn pp) hv
  have W:∀A':Around,A'.handled=none→_:=fun A' hA=>Zer (prog:=prog) (w:=w) (A:=A') (I:=s.heap.objs.size+1) (S:=S) (o:=o) (tp:=s.heap.objs.size) hA nI nT hd hf pp
  rw[hlen]at W
  refine h _ d _ _ _ ms' _ W ⟨⟨{ cls:=.type "set_iterator",data:=.fields #[.ref s.heap.objs.size,.int 0 0,.ref S,.int es.size 0,.int ep 0] },?_,rfl,by rw[hlen];rfl⟩,Heap.get?_push_of_some _ (Heap.get?_push_of_some _ ho),Heap.get?_push_of_some _ (Heap.get?_push_size _ rfl)⟩ ?_ (Nat.le_succ _) (fun b o e=>Heap.get?_push_of_some _ (Heap.get?_push_of_some _ e)) (p'.trans hp) r'
  ·rw[←Heap.size_push];exact Heap.get?_push_size _ rfl
  ·intro b hb
   rcases List.mem_cons.mp hb with z | z
   ·exact .inr (by rw[z];exact Nat.le_succ _)
   ·rcases List.mem_cons.mp z with z | z
    ·exact .inl z
    ·have z:b=s.heap.objs.size:=by simpa using z
     exact .inr (Nat.le_of_eq z.symm)
theorem ZeN {S:Addr}{ls:List (List Nat)}{Q:List Value→Shared→Prop}(hh:A.handled=none)(hS:TxSet prog w s.heap S ls (!ZaF w))(hn:ls.length≤sizeLine)
  (hQ:∀(s':Shared) (vs:List Value) (ms:List (List Nat)),(∀b o,s.heap.get? b=some o→s'.heap.get? b=some o)→s'.gens=s.gens→s'.os=s.os→ms.Perm ls→Vals (ms.map tx) vs→Q vs s'):wpAny (model prog w) A (collect (.ref S)) Q E s:=by
 unfold collect
 refine wpAny_bind (wpAny_runValue (codeAny_builtin F.entry_proto_collect ?_))
 rw[Around.under_plainId F.plain_proto_collect _]
 show wpAny _ A.in1 (newList [] >>= fun l=>again (.builtin "list.__iadd__" ⟨[l,.ref S],[]⟩)) _ _ s
 refine wpAny_bind (wpAny_newObj_type (wpAny_pure ⟨plainId_quiet F.plain_list_iadd _,codeAny_builtin F.entry_list_iadd ?_⟩))
 rw[Around.under_plainId F.plain_list_iadd _]
 generalize hH:s.heap.push { cls:=.type "list",data:=.seq ([]:List Value).toArray }=H
 have hHs:H.objs.size=s.heap.objs.size+1:=by rw[←hH,Heap.size_push]
 have hL:H.get? s.heap.objs.size=some { cls:=.type "list",data:=.seq ([]:List Value).toArray }:=hH▸Heap.get?_push_size _ rfl
 have k1:∀b o,s.heap.get? b=some o→H.get? b=some o:=fun b o e=>hH▸Heap.get?_push_of_some _ e
 have hS1:TxSet prog w H S ls (!ZaF w):=hS.keep fun o e=>k1 S o e
 have hT:Shared.TypeIs { s with heap:=H } (.ref S) "set":=hS1.typ (s:={ s with heap:=H })
 have nS:S≠s.heap.objs.size:=by
  obtain⟨o,_,_,_,_,ho,_⟩:=hS
  exact Nat.ne_of_lt (Heap.lt_size ho)
 show wpAny _ A.in1 (Builtin.List.listExtendWith (.ref s.heap.objs.size) (.ref S) (.ref s.heap.objs.size)) _ _ { s with heap:=H }
 unfold Builtin.List.listExtendWith
 refine wpAny_bind (wpAny_typeOf hT ?_)
 have h1:Builtin.List.listSameRef (.ref s.heap.objs.size) (.ref S)=false:=by simp[Builtin.List.listSameRef,Ne.symm nS]
 have h2:(Value.type "set" == Value.type "list")=false:=by decide
 have h3:(Value.type "set" == Value.type "tuple")=false:=by decide
 simp only[h1,h2,h3,Bool.or_false,Bool.false_eq_true,if_false]
 refine wpAny_bind (ZfF (s:={ s with heap:=H }) hS1 fun h2' d I fp vs ms St W st hfp hI k2 hp hv=>?_)
 have hT2:Shared.TypeIs { s with heap:=h2',drawn:=d } (.ref S) "set":=(hS1.keep fun o e=>k2 S o e).typ (s:={ s with heap:=h2',drawn:=d })
 refine wpAny_bind (wpAny_holding ?_)
 unfold Builtin.List.listLengthHint
 refine wpAny_bind (wpAny_specialOf hT2 Zd9 ?_)
 wp_delta
 refine wpAny_bind (wpAny_isInstance (T:="set") (v:=.ref S) (b:=true) hT2 (by rw[isSubtype_type];kernel_rfl) ?_)
 show wpAny _ A.in1 (typeOf (Value.ref S) >>= fun r=>_) _ _ _
 refine wpAny_bind (wpAny_typeOf hT2 ?_)
 refine wpAny_pure ?_
 rw[if_pos (by decide)]
 refine wpAny_bind (wpAny_rule ?_)
 have hL2:h2'.get? s.heap.objs.size=some { cls:=.type "list",data:=.seq ([]:List Value).toArray }:=k2 _ _ hL
 refine wpAny_bind ?_
 show wpAny _ A.in1 (updateSeq s.heap.objs.size (·.push .none) >>= fun _=>updateSeq s.heap.objs.size (·.pop)) _ _ _
 refine wpAny_bind (wpAny_updateSeq hL2 rfl ?_)
 have hL3:=Heap.get?_update_self (Obj.mapSeq (·.push Value.none)) hL2 rfl
 refine wpAny_updateSeq hL3 rfl ?_
 have hL4:=Heap.get?_update_self (Obj.mapSeq (·.pop)) hL3 rfl
 have oth:∀b o,b≠s.heap.objs.size→h2'.get? b=some o→((h2'.update s.heap.objs.size (Obj.mapSeq (·.push Value.none))).update s.heap.objs.size (Obj.mapSeq (·.pop))).get? b=some o:=
  fun b o hb e=>(Heap.get?_update_other _ _ (Ne.symm hb)).trans ((Heap.get?_update_other _ _ (Ne.symm hb)).trans e)
 have hle:s.heap.objs.size+1≤I:=by rw[←hHs];exact hI
 have hSf:s.heap.objs.size∉fp:=fun z=>by
  rcases hfp _ z with q | q
  ·exact nS q.symm
  ·have q':H.objs.size≤s.heap.objs.size:=q
   rw[hHs]at q';exact absurd q' (Nat.not_succ_le_self _)
 refine wpAny_pure ⟨plainId_quiet F.plain_extend_loop _,codeAny_extend_loopS (W A.in1 hh).toS hn _ hSf _ ls.length 0 _ _ _ rfl (Nat.zero_le _) ((W A.in1 hh).frame 0 h2' _ st fun b hb o e=>oth b o (fun z=>hSf (z▸hb)) e) hL4 (ItemsOf.nil _) fun s' acc' c' hm hS' hacc=>?_⟩
 show wpAny _ A (load s.heap.objs.size >>= fun r=>_) _ _ s'
 refine wpAny_bind (wpAny_load hS' ?_)
 have hvs:acc'.toList=vs:=by
  have hl:vs.length=ls.length:=by rw[←hv.length,List.length_map,hp.length_eq]
  apply List.ext_getElem?
  intro j
  rw[Array.getElem?_toList]
  by_cases hj:j<ls.length
  ·have hj':j<acc'.size:=by rw[hacc.1];exact hj
   have e:acc'[j]?=some acc'[j]:=by simp[hj']
   rw[e,hacc.2 j _ e]
  ·rw[Array.getElem?_eq_none (by rw[hacc.1];omega),List.getElem?_eq_none (by omega)]
 have done:=hQ s' vs ms (fun b o e=>by
  have hlt:=Heap.lt_size e
  refine hm.heap b o (fun z=>?_) (oth b o (Nat.ne_of_lt hlt) (k2 b o (k1 b o e)))
  rcases List.mem_cons.mp z with q | q
  ·rw[q]at hlt;exact Nat.lt_irrefl _ hlt
  ·have q:b=I:=by simpa using q
   rw[q]at hlt
   exact absurd hlt (Nat.not_lt.mpr (Nat.le_of_succ_le hle))) hm.gens hm.os hp hv
 rw[←hvs]at done
 exact wpAny_pure done
end
section
variable {prog:Program}{w:World}{A:Around}{E:Value→Shared→Prop}{s:Shared}{r S:Addr}{led:Bool}
theorem Zge {es:List (Int×Value)}{ms:List (List Nat)}(hv:Vals (ms.map tx) (es.map (·.2))){e:Int×Value}(he:e∈es):∃l t,l∈ms∧e.2=.str ⟨l.toArray⟩ t:=by
 obtain⟨i,hi,rfl⟩:=List.getElem_of_mem he
 have e1:(es.map (·.2))[i]?=some es[i].2:=by rw[List.getElem?_map,List.getElem?_eq_getElem hi];rfl
 obtain⟨v,hv1,rv⟩:=Zco hv e1
 rw[List.getElem?_map]at hv1
 cases q:ms[i]? with
 | none=>rw[q]at hv1;cases hv1
 | some m=>
  rw[q]at hv1
  cases hv1
  obtain⟨t,ht⟩:=rv
  exact⟨m,t,List.mem_of_getElem? q,ht⟩
theorem Zhc {ls:List Addr}{Q:Bool→Shared→Prop}(h:∀a∈ls,∃led l2,TxSet prog w s.heap a l2 led)(q:Q true s):wpAny (model prog w) A (setsQuiet ls) Q E s:=by
 unfold setsQuiet
 refine wpAny_bind (wpAny_mono (wpAny_forIn_list _ (fun rest (b:Option Bool×Unit) s'=>s'=s∧(∀a∈rest,a∈ls)∧b=(none,())) (fun (b:Option Bool×Unit) s'=>s'=s∧b=(none,())) ?_ ?_ _ _ ⟨rfl,fun a ha=>ha,rfl⟩) ?_ fun _ _ h'=>h')
 ·rintro a rest b s' ⟨rfl,hm,rfl⟩
  obtain⟨led,l2,o,es,ep,t,ms,hg,hex,hd,hel,hf,hled,hpl,hp,hv,hb⟩:=h a (hm a List.mem_cons_self)
  refine wpAny_bind (wpAny_setEntries_of hg hd hf ?_)
  refine wpAny_bind (wpAny_mono (wpAny_forIn_array' _ (fun rest (b:Option Bool×Unit) s2=>s2=s'∧(∀a∈rest,a∈es.toList)∧b=(none,())) (fun (b:Option Bool×Unit) s2=>s2=s'∧b=(none,())) ?_ ?_ _ _ ⟨rfl,fun a ha=>ha,rfl⟩) ?_ fun _ _ h'=>h')
  ·rintro⟨hx,x⟩ rest2 b s2 ⟨rfl,hm2,rfl⟩
   obtain⟨l,tk,_,e⟩:=Zge hv (hm2 _ List.mem_cons_self)
   have e':x=.str ⟨l.toArray⟩ tk:=e
   subst e'
   exact wpAny_pure ⟨rfl,fun a ha=>hm2 a (List.mem_cons_of_mem _ ha),rfl⟩
  ·rintro b s2 ⟨rfl,_,rfl⟩
   exact⟨rfl,rfl⟩
  ·rintro b s2 ⟨rfl,rfl⟩
   exact wpAny_pure ⟨rfl,fun a ha=>hm a (List.mem_cons_of_mem _ ha),rfl⟩
 ·rintro b s' ⟨rfl,_,rfl⟩
  exact⟨rfl,rfl⟩
 ·rintro b s' ⟨rfl,rfl⟩
  exact wpAny_pure q
theorem Zeu {lS lr:List (List Nat)}{Q:Array (Int×Value)→Shared→Prop}(hS:TxSet prog w s.heap S lS (!ZaF w))(hr:TxSet prog w s.heap r lr (!ZaF w))(ne:r≠S)
  (h:∀(h':Heap) (es:Array (Int×Value)) (xs:List (List Nat)),Heap.SameBut r s.heap h'→TxSet prog w h' r lr (!ZaF w)→xs.Perm lS→Vals (xs.map tx) (es.toList.map (·.2))→ElemsOf (ZaT prog w) es.toList→Q es { s with heap:=h' }):
  wpAny (model prog w) A (setWalkUnseen S [r] (some r)) Q E s:=by
 obtain⟨o,es,ep,t,ms,hg,hex,hd,hel,hf,hled,hpl,hp,hv,hb⟩:=id hS
 obtain⟨o2,es2,ep2,t2,ms2,hg2,hex2,hd2,hel2,hf2,hled2,hpl2,hp2,hv2,hb2⟩:=id hr
 unfold setWalkUnseen
 refine wpAny_bind (wpAny_setState_of hg hd hf ?_)
 dsimp only
 unfold setsByText
 refine wpAny_bind (wpAny_bind (wpAny_askSetting (wpAny_pure ?_)))
 show wpAny _ _ (if (ZaF w || t.led&&t.plain || decide (es.size≤1))=true then _ else _) _ _ _
 by_cases c:(ZaF w || t.led&&t.plain || decide (es.size≤1))=true
 ·rw[if_pos c]
  unfold setWalk
  refine wpAny_bind (wpAny_setState_of hg hd hf ?_)
  dsimp only
  unfold setsByText
  refine wpAny_bind (wpAny_bind (wpAny_askSetting (wpAny_pure ?_)))
  show wpAny _ _ (if ZaF w=true then _ else (if (!t.plain&&decide (es.size>1))=true then _ else _)) _ _ _
  by_cases b:ZaF w=true
  ·rw[if_pos b]
   refine wpAny_bind (wpAny_askSetting (wpAny_pure ?_))
   have pp:=Za3 (next:=w.params.setOrder S ep) (xs:=es)
   obtain⟨ms',p',r'⟩:=Zbs (pp.map (·.2)) hv
   exact h s.heap _ ms' (Heap.SameBut.refl _ _) hr (p'.trans hp) r' (hel.perm pp)
  ·rw[if_neg b]
   have sm:es.size≤1:=by
    rw[Bool.eq_false_iff.mpr b,Bool.false_or,Bool.or_eq_true,Bool.and_eq_true,decide_eq_true_iff]at c
    rcases c with⟨_,z⟩ | z
    ·rw[hpl z];exact Nat.zero_le _
    ·exact z
   have n1:decide (es.size>1)=false:=decide_eq_false (by omega)
   rw[n1,Bool.and_false,if_neg Bool.false_ne_true]
   show wpAny _ _ ((if (!t.led&&decide (es.size>1))=true then (do let _ ←(unsupported "set:maker-not-led":Sem Unit);pure ()) else pure ()) >>= fun _=>_) _ _ _
   rw[n1,Bool.and_false,if_neg Bool.false_ne_true]
   exact wpAny_bind (wpAny_pure (wpAny_pure (h s.heap es ms (Heap.SameBut.refl _ _) hr hp hv hel)))
 ·rw[if_neg c]
  have c':=Bool.eq_false_iff.mpr c
  rw[Bool.or_eq_false_iff,Bool.or_eq_false_iff,decide_eq_false_iff_not]at c'
  refine wpAny_bind (Zhc (s:=s) (fun a ha=>?_) ?_)
  ·rcases List.mem_cons.mp ha with z | z
   ·rw[z];exact⟨_,_,hS⟩
   ·rw[List.mem_singleton.mp z];exact⟨_,_,hr⟩
  rw[Bool.not_true,if_neg Bool.false_ne_true]
  refine wpAny_bind (wpAny_rule ?_)
  refine wpAny_bind (wpAny_setState_of hg2 hd2 hf2 ?_)
  dsimp only
  split
  ·have npl:t.plain=false:=by
    cases e:t.plain with
    | false=>rfl
    | true=>exact absurd (hpl e) (by omega)
   refine wpAny_bind (wpAny_storeSet_of hg2 hd2 (wpAny_pure ?_) (fits_of_scanBound hb2))
   refine h _ es ms (Heap.SameBut.update _ _ _) ⟨_,es2,_,_,ms2,Ze4 hg2 hd2,hex2,rfl,hel2,hf2,?_,fun e=>?_,hp2,hv2,hb2⟩ hp hv hel
   ·show (t2.led&&t.led)=_
    rw[hled,hled2,Bool.and_self]
   ·have e':(t2.plain&&t.plain)=true:=e
    rw[npl,Bool.and_false]at e'
    cases e'
  ·exact wpAny_pure (h s.heap es ms (Heap.SameBut.refl _ _) hr hp hv hel)
end
theorem ZdC:entryFor table "set.__xor__"=some Builtin.«frozenset.__xor__»:=entryFor_alias (id':="frozenset.__xor__") (by kernel_rfl) rfl (by decide +kernel) (by kernel_rfl)
section
variable {prog:Program}{w:World}{A:Around}{E:Value→Shared→Prop}{s:Shared}{a b:Addr}
theorem ZdJ {v:Addr}{ls:List (List Nat)}{led:Bool}{Q:Bool→Shared→Prop}(h:TxSet prog w s.heap v ls led)(q:Q true s):wpAny (model prog w) A (Builtin.Frozenset.isAnySet (.ref v)) Q E s:=by
 unfold Builtin.Frozenset.isAnySet
 refine wpAny_bind (wpAny_isInstance (T:="set") h.typ sub_set_self ?_)
 exact wpAny_pure q
theorem Zff:∀(xs ls:List (List Nat)),(xs.foldl Zbw ls).length≤ls.length+xs.length
 | [],ls=>Nat.le_refl _
 | x::xs,ls=>by
  have h1:=Zff xs (Zbw ls x)
  have h2:=ZhE (ls:=ls) (l:=x)
  rw[List.foldl_cons,List.length_cons]
  omega
theorem Zg4 {r:Addr}{ls:List (List Nat)}{led:Bool}{l:List Nat}{tk:Tok}{Q:Unit→Shared→Prop}(hS:TxSet prog w s.heap r ls led)(hn:ls.length+1<scanBound)
  (h:∀h',Heap.SameBut r s.heap h'→TxSet prog w h' r (Zbw ls l) led→Q () { s with heap:=h' }):
  wpAny (model prog w) A (holding [.str ⟨l.toArray⟩ tk] (do
   if !(←setDiscardHashed r (.str ⟨l.toArray⟩ tk) (keyH w (Sum.inr ⟨l.toArray⟩))) then
    let _ ←setAddHashed r (.str ⟨l.toArray⟩ tk) (keyH w (Sum.inr ⟨l.toArray⟩)))) Q E s:=by
 refine wpAny_holding (wpAny_bind (ZeA hS (fun h' sb hin hS'=>?_) fun hnin=>?_))
 ·rw[Bool.not_true,if_neg Bool.false_ne_true]
  refine wpAny_pure (h h' sb ?_)
  unfold Zbw
  rw[if_pos hin];exact hS'
 ·rw[Bool.not_false,if_pos rfl]
  refine wpAny_bind (Zf6 hS hn fun h' b sb hS'=>wpAny_pure (h h' sb ?_))
  unfold addT at hS'
  unfold Zbw
  rw[if_neg hnin]at hS' ⊢
  exact hS'
theorem Zh8 {x:Value}{h:Int}{l:List Nat}{tk:Tok}{es:List (Int×Value)}(hel:ElemsOf (ZaT prog w) es)(hm:(h,x)∈es)(e:x=.str ⟨l.toArray⟩ tk):h=keyH w (Sum.inr ⟨l.toArray⟩):=by
 obtain⟨⟨k,hk,eh⟩,_⟩:=hel _ hm
 subst e
 have:k=Sum.inr ⟨l.toArray⟩:=by
  cases k with
  | inl n=>exact absurd (show Zck (Sum.inl n:Key) (Value.str ⟨l.toArray⟩ tk)=true from hk) (by simp[Zck,Value.isInt])
  | inr y=>
   have hk':Zck (Sum.inr y:Key) (Value.str ⟨l.toArray⟩ tk)=true:=hk
   simp only[Zck,Value.isStrOf]at hk'
   have:(⟨l.toArray⟩:Str)=y:=by simpa using hk'
   rw[this]
 subst this
 exact eh
theorem Zid {la lb:List (List Nat)}{Q:Value→Shared→Prop}(ha:TxSet prog w s.heap a la (!ZaF w))(hb:TxSet prog w s.heap b lb (!ZaF w))(na:la.Nodup)(nb:lb.Nodup)(ne:a≠b)(hn:la.length+lb.length+1<scanBound)
  (h:∀(h':Heap),(∀c o,s.heap.get? c=some o→h'.get? c=some o)→TxSet prog w h' s.heap.objs.size (xorT la lb) (!ZaF w)→Q (.ref s.heap.objs.size) { s with heap:=h' }):
  wpAny (model prog w) A (binaryOp .BitXor (.ref a) (.ref b)) Q E s:=by
 refine wpAny_binaryOp_same ha.typ hb.typ F.fills_set_xor F.slot_set_xor (wpAny_call_entry F.slot_set_xor ha.typ ZdC ?_ (F.args_set_xor_2 _ _))
 unfold Builtin.«frozenset.__xor__»
 show wpAny _ _ (Builtin.Frozenset.slot1 "__xor__" ⟨[.ref a,.ref b],[]⟩ >>= _) _ _ _
 unfold Builtin.Frozenset.slot1 slotArgs
 simp only[List.isEmpty_nil,Bool.not_true,Bool.false_eq_true,↓reduceIte,bind_assoc,List.length_cons,List.length_nil,bne_self_eq_false]
 refine wpAny_bind (wpAny_pure ?_)
 dsimp only
 refine wpAny_bind (wpAny_pure ?_)
 dsimp only
 refine wpAny_bind ?_
 show wpAny _ _ (Builtin.Frozenset.isAnySet (.ref a) >>= _) _ _ _
 refine wpAny_bind (ZdJ ha ?_)
 show wpAny _ _ (Builtin.Frozenset.isAnySet (.ref b)) _ _ _
 refine ZdJ hb ?_
 rw[Bool.not_true,if_neg Bool.false_ne_true]
 refine wpAny_bind (show wpAny _ _ (Builtin.Frozenset.addrOf (.ref a)) _ _ _ from wpAny_pure ?_)
 refine wpAny_bind ?_
 show wpAny _ _ (Builtin.Frozenset.baseOf a >>= fun cls=>Builtin.Frozenset.newFrom (toString "frozenset."++toString "__xor__") cls (.ref b) >>= fun result=>Builtin.Frozenset.addrOf result >>= fun x=>holding [result] (Builtin.Frozenset.symmetricDifferenceUpdate (toString "frozenset."++toString "__xor__") x (.ref a)) >>= fun _=>pure result) _ _ _
 unfold Builtin.Frozenset.baseOf
 refine wpAny_bind (wpAny_bind (wpAny_isInstance (T:="set") ha.typ sub_set_self (wpAny_pure ?_)))
 rw[if_pos rfl]
 refine wpAny_bind ?_
 unfold Builtin.Frozenset.newFrom newSet setsByText
 refine wpAny_bind (wpAny_bind (wpAny_bind (wpAny_askSetting (wpAny_pure ?_))))
 dsimp only
 simp only[newObj]
 refine wpAny_bind (wpAny_alloc (wpAny_pure ?_))
 have hN:(s.heap.push (Zbr (!ZaF w))).get? s.heap.objs.size=some (Zbr (!ZaF w)):=Heap.get?_push_size _ rfl
 have k1:∀c o,s.heap.get? c=some o→(s.heap.push (Zbr (!ZaF w))).get? c=some o:=fun c o e=>Heap.get?_push_of_some _ e
 have la_:a<s.heap.objs.size:=by obtain⟨o,_,_,_,_,ho,_⟩:=ha;exact Heap.lt_size ho
 have lb_:b<s.heap.objs.size:=by obtain⟨o,_,_,_,_,ho,_⟩:=hb;exact Heap.lt_size ho
 have ha1:=ha.keep (k1 a)
 have hb1:=hb.keep (k1 b)
 show wpAny _ _ (Builtin.Frozenset.addrOf (.ref s.heap.objs.size) >>= _) _ _ { s with heap:=s.heap.push (Zbr (!ZaF w)) }
 generalize s.heap.push (Zbr (!ZaF w))=H1 at hN k1 ha1 hb1
 refine wpAny_bind (show wpAny _ _ (Builtin.Frozenset.addrOf (.ref s.heap.objs.size)) _ _ _ from wpAny_pure ?_)
 refine wpAny_bind (wpAny_holding ?_)
 unfold Builtin.Frozenset.updateFrom
 refine wpAny_bind (ZdJ (s:={ s with heap:=H1 }) hb1 ?_)
 rw[if_pos rfl]
 refine wpAny_bind (show wpAny _ _ (Builtin.Frozenset.addrOf (.ref b)) _ _ _ from wpAny_pure ?_)
 unfold Builtin.Frozenset.merge
 obtain⟨ob,eb,epb,tb,msb,gb,exb,db,elb,fb,rb⟩:=id hb1
 refine wpAny_bind (wpAny_setEpoch_of gb db fb ?_)
 refine Zf5 (s:={ s with heap:=H1 }) hN hb1 (Ne.symm (Nat.ne_of_lt lb_)) fun H2 sb2 hr2=>?_
 have k2:∀c o,c≠s.heap.objs.size→H1.get? c=some o→H2.get? c=some o:=fun c o n e=>(sb2.2 c n).trans e
 have na_:a≠s.heap.objs.size:=Nat.ne_of_lt la_
 have ha2:=ha1.keep fun o e=>k2 a o na_ e
 refine wpAny_pure (wpAny_bind (show wpAny _ _ (Builtin.Frozenset.addrOf (.ref s.heap.objs.size)) _ _ _ from wpAny_pure ?_))
 refine wpAny_bind (wpAny_holding ?_)
 show wpAny _ _ _ _ _ { s with heap:=H2 }
 unfold Builtin.Frozenset.symmetricDifferenceUpdate
 have e0:(Value.ref a == Value.ref s.heap.objs.size)=false:=by
  have:¬Value.ref a=Value.ref s.heap.objs.size:=fun z=>na_ (by injection z)
  simpa using this
 rw[e0,if_neg Bool.false_ne_true]
 refine wpAny_bind (wpAny_typeOf (s:={ s with heap:=H2 }) (T:="set") ha2.typ ?_)
 rw[show (Value.type "set" == Value.type "dict")=false by decide,if_neg Bool.false_ne_true]
 refine wpAny_bind (ZdJ (s:={ s with heap:=H2 }) ha2 ?_)
 rw[if_pos rfl]
 refine wpAny_bind (wpAny_pure ?_)
 refine wpAny_bind (show wpAny _ _ (Builtin.Frozenset.addrOf (.ref a)) _ _ _ from wpAny_pure ?_)
 obtain⟨oa,ea,epa,ta,msa,ga,exa,da,ela,fa,ra⟩:=id ha2
 refine wpAny_bind (wpAny_setEpoch_of (s:={ s with heap:=H2 }) ga da fa ?_)
 refine wpAny_holding ?_
 refine wpAny_bind (Zeu (s:={ s with heap:=H2 }) ha2 hr2 (Ne.symm na_) fun H3 es xs sb3 hr3 px hv hel=>?_)
 show wpAny _ _ _ _ _ { s with heap:=H3 }
 have xl:xs.length=la.length:=px.length_eq
 refine wpAny_bind (wpAny_mono (wpAny_forIn_array' _ (fun rest (_:PUnit) s'=>∃(h':Heap) (dn re:List (List Nat)),s'={ s with heap:=h' }∧Heap.SameBut s.heap.objs.size H2 h'∧xs=dn++re∧Vals (re.map tx) (rest.map (·.2))∧(∀e∈rest,e∈es.toList)∧TxSet prog w h' s.heap.objs.size (dn.foldl Zbw lb) (!ZaF w))
  (fun (_:PUnit) s'=>∃h':Heap,s'={ s with heap:=h' }∧Heap.SameBut s.heap.objs.size H2 h'∧TxSet prog w h' s.heap.objs.size (xs.foldl Zbw lb) (!ZaF w)) ?_ ?_ _ _ ⟨H3,[],xs,rfl,sb3,rfl,hv,fun e he=>he,hr3⟩) ?_ fun _ _ h'=>h')
 ·rintro⟨hx,x⟩ rest _ s' ⟨h',dn,re,rfl,sb,ex,hv',hm,hr'⟩
  cases re with
  | nil=>cases hv'
  | cons l re=>
   cases hv' with
   | cons r1 r2=>
    obtain⟨tk,e⟩:=r1
    have e':x=.str ⟨l.toArray⟩ tk:=e
    have ek:=Zh8 hel (hm _ List.mem_cons_self) e'
    subst e' ek
    have dl:dn.length+(re.length+1)=la.length:=by rw[←xl,ex,List.length_append,List.length_cons]
    have fl:=Zff dn lb
    refine wpAny_bind (Zg4 (s:={ s with heap:=h' }) hr' (by omega) fun h2 sb2' hr2'=>?_)
    show wpAny _ _ _ _ _ { s with heap:=h2 }
    have sb4:=sb.trans sb2'
    have ga':h2.get? a=some oa:=(sb4.2 a na_).trans ga
    unfold Builtin.Frozenset.unchanged
    refine wpAny_bind (wpAny_bind (wpAny_setEpoch_of (s:={ s with heap:=h2 }) ga' da fa ?_))
    rw[bne_self_eq_false,if_neg Bool.false_ne_true]
    refine wpAny_pure (wpAny_pure ⟨h2,dn++[l],re,rfl,sb4,by rw[ex];simp,r2,fun e he=>hm e (List.mem_cons_of_mem _ he),?_⟩)
    rw[List.foldl_append]
    exact hr2'
 ·rintro _ s' ⟨h',dn,re,rfl,sb,ex,hv',hm,hr'⟩
  cases re with
  | cons l re=>cases hv'
  | nil=>
   rw[List.append_nil]at ex
   subst ex
   exact⟨h',rfl,sb,hr'⟩
 ·rintro _ s' ⟨h',rfl,sb,hr'⟩
  refine wpAny_pure (wpAny_pure (wpAny_pure ⟨_,rfl,fun z=>(by cases z),h h' (fun c o e=>?_) (hr'.perm (ZhC na nb px))⟩))
  have nc:c≠s.heap.objs.size:=Nat.ne_of_lt (Heap.lt_size e)
  exact(sb.2 c nc).trans (k2 c o nc (k1 c o e))
end
def leT (a b:List Nat):Bool:=!decide (b<a)
def ZaQ (ls:List (List Nat)):List (List Nat):=ls.mergeSort leT
theorem Zbe {a b:List Nat}:leT a b=true↔a≤b:=by
 unfold leT
 rw[Bool.not_eq_true',decide_eq_false_iff_not]
 exact List.not_lt
theorem ZaE (ls:List (List Nat)):(ZaQ ls).Perm ls:=List.mergeSort_perm _ _
theorem ZaY (ls:List (List Nat)):(ZaQ ls).Pairwise (fun a b=>leT a b=true):=
 List.pairwise_mergeSort (le:=leT) (fun a b c h1 h2=>Zbe.mpr (List.le_trans (Zbe.mp h1) (Zbe.mp h2))) (fun a b=>Bool.or_eq_true_iff.mpr ((List.le_total a b).imp Zbe.mpr Zbe.mpr)) ls
theorem Zb7 {ms ls:List (List Nat)}(p:ms.Perm ls)(h:ms.Pairwise (fun a b=>leT a b=true)):ms=ZaQ ls:=
 List.Perm.eq_of_pairwise (fun a b _ _ h1 h2=>List.le_antisymm (Zbe.mp h1) (Zbe.mp h2)) h (ZaY ls) (p.trans (ZaE ls).symm)
theorem Zcs {ms ls:List (List Nat)}(p:ms.Perm ls):ZaQ ms=ZaQ ls:=Zb7 ((ZaE ms).trans p) (ZaY ms)
theorem Zf1:∀ {us:List Value} {ss:List Str},StrsAre us ss→Vals ((ss.map fun x=>x.cps.toList).map tx) us
 | _,_,.nil=>.nil
 | _,_,.cons x t h=>.cons ⟨t,rfl⟩ (Zf1 h)
theorem Zdn:∀ {ss:List Str},sortedS ss=true→(ss.map fun x=>x.cps.toList).Pairwise (fun a b=>leT a b=true):=by
 have ris:∀(p:Str) (l:List Str),risingS p l=true→((p::l).map fun x=>x.cps.toList).Pairwise (fun a b=>leT a b=true):=by
  intro p l
  induction l generalizing p with
  | nil=>intro _;simp
  | cons x r ih=>
   intro h
   have h':(!ltCps x.cps.toList p.cps.toList&&risingS x r)=true:=h
   rw[Bool.and_eq_true,ltCps_eq]at h'
   have q:=ih x h'.2
   rw[List.map_cons,List.pairwise_cons]
   refine⟨fun b hb=>?_,q⟩
   have hx:leT p.cps.toList x.cps.toList=true:=h'.1
   rw[List.map_cons]at hb q
   rcases List.mem_cons.mp hb with z | z
   ·rw[z];exact hx
   ·exact Zbe.mpr (List.le_trans (Zbe.mp hx) (Zbe.mp ((List.pairwise_cons.mp q).1 b z)))
 intro ss h
 cases ss with
 | nil=>simp
 | cons x r=>exact ris x r h
theorem Zf2 {us:List Value}{ls:List (List Nat)}(r:Vals (ls.map tx) us):StrsAre us (ls.map fun l=>(⟨l.toArray⟩:Str)):=Zb6 r
theorem ZhI (ls:List (List Nat)):(ls.map fun l=>(⟨l.toArray⟩:Str)).map (fun x=>x.cps.toList)=ls:=by
 rw[List.map_map]
 conv=>rhs;rw[←List.map_id ls]
 apply List.map_congr_left
 intro l _
 simp
section
variable {prog:Program}{w:World}{A:Around}{E:Value→Shared→Prop}{s:Shared}
theorem ZdP {vs:List Value}{ms:List (List Nat)}{Q:Value→Shared→Prop}(hv:Vals (ms.map tx) vs)(h64:ms.length<64)
  (h:∀(h':Heap) (us:List Value) (e:Nat),(∀b o,s.heap.get? b=some o→h'.get? b=some o)→h'.get? s.heap.objs.size=some { cls:=.type "list",data:=.seq us.toArray e }→Vals ((ZaQ ms).map tx) us→Q (.ref s.heap.objs.size) { s with heap:=h' }):
  wpAny (model prog w) A (do let l ←newList vs;let _ ←holding [l] (call (.builtin "list.sort") [l] []);ret l) (fun fin s'=>∃v,fin=Fin.done (Flow.ret v)∧Q v s') E s:=by
 have hS:=Zf2 hv
 have hlen:vs.length<64:=by rw[←hv.length,List.length_map];exact h64
 refine wpAny_bind (wpAny_newList ?_ ?_)
 ·have hoL:(s.heap.push (seqObj "list" vs.toArray 0)).get? s.heap.objs.size=some (seqObj "list" vs.toArray 0):=Heap.get?_push_size _ rfl
  refine wpAny_bind (wpAny_holding (wpAny_call_entry slot_list_sort ⟨_,hoL,rfl⟩ entry_list_sort (list_sort_treeK strKind_oneLt hoL hS.keysOf (fun v₁ v₂ rest e=>keyKind_strs (by rw[←e];exact hS)) hlen fun st' a1 a2=>⟨_,rfl,?_⟩) (args_list_sort _)))
  obtain⟨ss',b1,b2,b3⟩:=sorted_out_str hS a1 a2
  obtain⟨e,he⟩:=sortedHeap_at (out:=(arrOf st').map (·.2)) hoL
  refine wpAny_pure ⟨_,rfl,h _ ((arrOf st').map (·.2)).toList e (fun b o q=>?_) ?_ ?_⟩
  ·have hlt:=Heap.lt_size q
   have hlt':b<(s.heap.push (seqObj "list" vs.toArray 0)).objs.size:=by rw[Heap.size_push];exact Nat.lt_succ_of_lt hlt
   exact(sortedHeap_old (Nat.ne_of_lt hlt) hlt').trans (Heap.get?_push_of_some _ q)
  ·have q:((arrOf st').map (·.2)).toList.toArray=(arrOf st').map (·.2):=Array.toArray_toList
   rw[q];exact he
  ·have p1:(ss'.map fun x=>x.cps.toList).Perm ms:=by
    have:=b2.map (fun x:Str=>x.cps.toList)
    rwa [ZhI]at this
   have e1:=Zb7 p1 (Zdn b3)
   rw[←e1]
   exact Zf1 b1
 ·exact Nat.le_trans (Nat.le_of_lt hlen) (by rw[sizeLine_eq];decide)
theorem Zfp {S:Addr}{ls:List (List Nat)}{Q:Value→Shared→Prop}(hh:A.handled=none)(hS:TxSet prog w s.heap S ls (!ZaF w))(h64:ls.length<64)
  (h:∀(s':Shared) (a:Addr) (us:List Value) (e:Nat),s.heap.get? a=none→(∀b o,s.heap.get? b=some o→s'.heap.get? b=some o)→s'.gens=s.gens→s'.os=s.os→s'.heap.get? a=some { cls:=.type "list",data:=.seq us.toArray e }→Vals ((ZaQ ls).map tx) us→Q (.ref a) s'):
  wpAny (model prog w) A (call (.builtin "sorted") [.ref S]) Q E s:=by
 refine Calls.call_function_entry kind_sorted plain_sorted entry_sorted (args_sorted1 _) ?_
 unfold Builtin.«sorted»
 refine wpAny_bind (m:=checkCount "sorted" 1 1 _) (wpAny_pure ?_)
 refine wpAny_bind (ZeN (by first | exact hh | simpa using hh) hS (Nat.le_trans (Nat.le_of_lt h64) (by rw[sizeLine_eq];decide)) fun s' vs ms k1 hg ho hp hv=>?_)
 have hl:ms.length<64:=by rw[hp.length_eq];exact h64
 refine ZdP hv hl fun h' us e k2 he r=>?_
 rw[Zcs hp]at r
 exact h _ _ us e (by
  cases q:s.heap.get? s'.heap.objs.size with
  | none=>rfl
  | some o=>exact absurd (Heap.lt_size (k1 _ _ q)) (Nat.lt_irrefl _)) (fun b o q=>k2 b o (k1 b o q)) hg ho he r
end
structure Fly (B:Heap)(l:List Env)(e:Addr)(C:Value)(d:Option Addr)(fl:Value)(h:Heap):Prop where
 st:B.StaysIn h
 ne:B.get? e=none
 fr:h.FunFrames B l
 tr:∃oe vs T oT ts,h.get? e=some oe∧oe.cls=C∧oe.dict=d∧oe.data=.fields vs∧vs[1]?=some (.ref T)∧B.get? T=none∧T≠e∧h.get? T=some oT∧oT.data=.fields ts∧ts[3]?=some fl
theorem ZhF (o:Obj)(f:Array Value→Array Value):(o.mapFields f).dict=o.dict:=by
 obtain⟨c,d,dt,sl⟩:=o
 cases dt<;>rfl
section
variable {M:Model}{A:Around}{E:Value→Shared→Prop}{s:Shared}{B:Heap}{env:Env}{outer:List Env}{L e:Addr}{C:Value}{d:Option Addr}{Q:Unit→Shared→Prop}
theorem Zd1 {oe:Obj}{vs:Array Value}{head:Value}{hadNext:Bool}(hfr:A.frames=some (env::outer))(hl:s.heap.FunFrames B (env::outer))(hf:env.frame=some L)(he:s.heap.get? e=some oe)(hkb:B.StaysIn s.heap)(hen:B.get? e=none)
  (hc:oe.cls=C) (hdd:oe.dict=d) (hd:oe.data=.fields vs) (hsz:1<vs.size) (h:∀h',Fly B (env::outer) e C d (rawInt L) h'→s.heap.UpToSlots h'→Q () { s with heap:=h' }):
  wpAny M A (do let a ←frameOf env;let pl ←entryPlaceOf L hadNext;let b ←EntryCells.newEntry head a .none (rawInt L) .none pl;setField (.ref e) 1 b) Q E s:=by
 have hene:e∉(env::outer).filterMap (·.frame):=fun hm=>by
  obtain⟨_,o,ho,hnf⟩:=hl.mem hm
  rw[he]at ho
  cases ho
  exact hnf vs hd
 refine wpAny_bind (wpAny_frameOf_fun hfr hl hf fun h1 hs=>wpAny_bind (wpAny_entryPlaceOf fun pl hpl=>?_))
 unfold EntryCells.newEntry newFields
 refine wpAny_bind (wpAny_newObj_type ?_ (hpl.sizeOk5 _ _ _ _ _))
 have e1:h1.get? e=some oe:=(hs.2.1 e hene).trans he
 have k1:B.StaysIn h1:=fun b o hbo=>(hs.2.1 b fun hm=>by rw[(hl.mem hm).1]at hbo;cases hbo).trans (hkb b o hbo)
 generalize eT:({ cls:=.type "traceback",dict:=none,data:=.fields ([head,.ref L,.none,rawInt L,.none]++(if pl.isEmpty then List.replicate 6 Value.none else pl)).toArray }:Obj)=oT
 have e2:(h1.push oT).get? e=some oe:=Heap.get?_push_of_some _ e1
 refine wpAny_setField e2 hd hsz ?_
 have nT:h1.objs.size≠e:=Nat.ne_of_gt (Heap.lt_size e1)
 have d3:=Obj.data_mapFields hd (·.setIfInBounds 1 (Value.ref h1.objs.size))
 have e3:=Heap.get?_update_self (Obj.mapFields (·.setIfInBounds 1 (Value.ref h1.objs.size))) e2 (Obj.isFreed_of_fields d3)
 have t3:((h1.push oT).update e (Obj.mapFields (·.setIfInBounds 1 (Value.ref h1.objs.size)))).get? h1.objs.size=some oT:=by
  rw[Heap.get?_update_other _ _ (Ne.symm nT)]
  refine Heap.get?_push_size _ ?_
  rw[←eT];rfl
 have keep:∀b o,b≠e→h1.get? b=some o→((h1.push oT).update e (Obj.mapFields (·.setIfInBounds 1 (Value.ref h1.objs.size)))).get? b=some o:=fun b o hb q=>by
  rw[Heap.get?_update_other _ _ (Ne.symm hb)]
  exact Heap.get?_push_of_some _ q
 have nrec:∀b o,s.heap.get? b=some o→(∀vs,o.data≠.fields vs)→b≠e:=fun b o q n z=>by
  rw[z,he]at q
  cases q
  exact n vs hd
 have dT:oT.data=.fields ([head,.ref L,.none,rawInt L,.none]++(if pl.isEmpty then List.replicate 6 Value.none else pl)).toArray:=by rw[←eT]
 refine h _ ⟨fun b o q=>keep b o (fun z=>by rw[z,hen]at q;cases q) (k1 b o q),hen,hl.of_keeps fun b o q n=>?_,_,_,h1.objs.size,oT,_,e3,(Obj.cls_mapFields _ _).trans hc,(ZhF _ _).trans hdd,d3,?_,k1.fresh,nT,t3,dT,?_⟩ fun b o q n=>?_
 ·obtain⟨sl,q2⟩:=hs.2.2 b o q
  exact⟨_,keep b _ (nrec b o q n) q2,rfl⟩
 ·simp[hsz]
 ·simp
 ·obtain⟨sl,q2⟩:=hs.2.2 b o q
  exact⟨sl,keep b _ (nrec b o q n) q2⟩
theorem Zfy {oe:Obj}{vs:Array Value}(hfr:A.frames=some (env::outer))(hl:s.heap.FunFrames B (env::outer))(hf:env.frame=some L)(he:s.heap.get? e=some oe)(hkb:B.StaysIn s.heap)(hen:B.get? e=none)
  (hc:oe.cls=C) (hdd:oe.dict=d) (hd:oe.data=.fields vs) (h1:vs[1]?=some .none) (h:∀h',Fly B (env::outer) e C d (rawInt L) h'→s.heap.UpToSlots h'→Q () { s with heap:=h' }):wpAny M A (noteFrame (.ref e) env) Q E s:=by
 unfold noteFrame
 simp only[hf]
 refine wpAny_bind (wpAny_field he hd h1 ?_)
 rw[if_neg (by decide)]
 exact Zd1 hfr hl hf he hkb hen hc hdd hd (Array.getElem?_eq_some_iff.mp h1).1 h
theorem Zgl (hfr:A.frames=some (env::outer))(hf:env.frame=some L)(x:Fly B (env::outer) e C d .none s.heap)(h:∀h',Fly B (env::outer) e C d (rawInt L) h'→s.heap.UpToSlots h'→Q () { s with heap:=h' }):
  wpAny M A (noteFrame (.ref e) env) Q E s:=by
 obtain⟨hkb,hen,hl,oe,vs,T,oT,ts,he,hc,hdd,hd,h1,hnT,hTe,hT,hdT,h3⟩:=x
 unfold noteFrame
 simp only[hf]
 refine wpAny_bind (wpAny_field he hd h1 ?_)
 rw[if_pos (show (Value.ref T != Value.none)=true from by simp)]
 refine wpAny_bind (wpAny_field hT hdT h3 ?_)
 rw[if_neg (show ¬((Value.none == rawInt L)=true) from by simp[rawInt])]
 refine wpAny_bind (wpAny_setField hT hdT (Array.getElem?_eq_some_iff.mp h3).1 ?_)
 have oth:∀b,b≠T→(s.heap.update T (Obj.mapFields (·.setIfInBounds 3 Value.none))).get? b=s.heap.get? b:=fun b hb=>Heap.get?_update_other _ _ (Ne.symm hb)
 have nrec:∀b o,s.heap.get? b=some o→(∀vs,o.data≠.fields vs)→b≠T:=fun b o q n z=>by
  rw[z,hT]at q
  cases q
  exact n ts hdT
 refine Zd1 (s:={ s with heap:=s.heap.update T (Obj.mapFields (·.setIfInBounds 3 Value.none)) }) hfr (hl.of_keeps fun b o q n=>⟨o,(oth b (nrec b o q n)).trans q,rfl⟩) hf ((oth e (Ne.symm hTe)).trans he)
  (fun b o q=>(oth b fun z=>by rw[z,hnT]at q;cases q).trans (hkb b o q)) hen hc hdd hd (Array.getElem?_eq_some_iff.mp h1).1 fun h' y u=>h h' y fun b o q n=>u b o ((oth b (nrec b o q n)).trans q) n
theorem ZbP {l:List Env}{fl:Value}(x:Fly B l e C d fl s.heap)(h:∀h',Fly B l e C d .none h'→s.heap.UpToSlots h'→Q () { s with heap:=h' }):wpAny M A (setFlight (.ref e) none) Q E s:=by
 obtain⟨hkb,hen,hl,oe,vs,T,oT,ts,he,hc,hdd,hd,h1,hnT,hTe,hT,hdT,h3⟩:=x
 have hz:3<ts.size:=(Array.getElem?_eq_some_iff.mp h3).1
 have oth:∀b,b≠T→(s.heap.update T (Obj.mapFields (·.setIfInBounds 3 ((none:Option Addr).elim Value.none fun f=>rawInt f)))).get? b=s.heap.get? b:=fun b hb=>Heap.get?_update_other _ _ (Ne.symm hb)
 have nrec:∀b o,s.heap.get? b=some o→(∀vs,o.data≠.fields vs)→b≠T:=fun b o q n z=>by
  rw[z,hT]at q
  cases q
  exact n ts hdT
 unfold setFlight
 refine wpAny_bind (wpAny_field he hd h1 ?_)
 rw[if_pos (show (Value.ref T != Value.none)=true from by simp)]
 refine wpAny_setField hT hdT hz (h _ ⟨fun b o q=>(oth b fun z=>by rw[z,hnT]at q;cases q).trans (hkb b o q),hen,hl.of_keeps fun b o q n=>⟨o,(oth b (nrec b o q n)).trans q,rfl⟩,oe,vs,T,_,_,(oth e (Ne.symm hTe)).trans he,hc,hdd,hd,h1,hnT,hTe,
  Heap.get?_update_self _ hT (Obj.isFreed_of_fields (Obj.data_mapFields hdT _)),Obj.data_mapFields hdT _,by simp[hz]⟩ fun b o q n=>⟨o.slots,(oth b (nrec b o q n)).trans q⟩)
theorem Fly.pop {h:Heap}{fl:Value}(x:Fly B (env::outer) e C d fl h):Fly B outer e C d fl h:=⟨x.st,x.ne,x.fr.2.2,x.tr⟩
theorem ZeG {oe:Obj}{vs:Array Value}(hfr:A.frames=some (env::outer))(hl:s.heap.FunFrames B (env::outer))(hf:env.frame=some L)(he:s.heap.get? e=some oe)(hkb:B.StaysIn s.heap)(hen:B.get? e=none)
  (hc:oe.cls=C) (hdd:oe.dict=d) (hd:oe.data=.fields vs) (h1:vs[1]?=some .none) (h:∀h',Fly B outer e C d .none h'→s.heap.UpToSlots h'→Q () { s with heap:=h' }):wpAny M A (leaving env (.ref e)) Q E s:=by
 unfold leaving
 refine wpAny_bind (Zfy hfr hl hf he hkb hen hc hdd hd h1 fun h1 x1 u1=>ZbP (s:={ s with heap:=h1 }) x1 fun h2 x2 u2=>h h2 x2.pop (u1.trans u2))
end
end L2
namespace L2
open PySem PySem.Spec PyProof.Rows
open PySem.W (Frag findIn typeIn mroIn clsIn InstAt Looks)
def xr (a C:Addr)(d:Option Addr):HO:=.ext fun h=>∃(o:Obj) (vs:Array Value),h.get? a=some o∧o.cls=.ref C∧o.dict=d∧o.data=.fields vs
theorem Zi4 {P:Program}{w:World}{H:Hp}{h:Heap}{e C:Addr}{d:Option Addr}{o:Obj}{vs:Array Value}(h1:h.get? e=some o)(h2:o.cls=.ref C)(h3:o.dict=d)(h4:o.data=.fields vs):ObjOk P w H h e (xr e C d):=
 ⟨⟨o,vs,h1,h2,h3,h4⟩,⟨o,h1⟩,fun g1 g2 ⟨o',vs',q1,q⟩ k=>⟨o',vs',k _ q1,q⟩⟩
inductive XAny (H:Hp) (e C:Addr):List (Str×V)→Prop where
 | un {fs:List (Str×V)}:XAt H e C fs→XAny H e C fs
 | bare:H e=some (xr e C none)→XAny H e C []
 | full {d:Addr} {fs:List (Str×V)}:H e=some (xr e C (some d))→H d=some (xdO d fs)→d≠e→XAny H e C fs
section
variable {M:Model}{A:Around}{E:Value→Shared→Prop}{s:Shared}{env:Env}
theorem Zgd {x:Sem Value}{Q:Flow→Shared→Prop}(hh:A.handled=none)
  (h:wpAny M A x (fun v s₁=>∃(e t:Addr) (od:Option Addr) (sl:Array (Option Value)) (C:Addr) (nm q:Str) (N:Addr) (bs bm:List Value) (hdct:Bool) (sn:List Str) (sub:List Value) (ab:Bool) (col:Option Bool) (dd:Option Addr) (k0 k1 k2 k3 k5:Option Value) (newId:String),v=.ref e∧bm.contains (.type "BaseException")=true ∧
   s₁.heap.get? C=some (excClassObj nm q C N bs bm hdct sn sub ab col dd k0 k1 k2 k3 k5 newId)∧s₁.heap.get? e=some { cls:=.ref C,dict:=od,data:=.fields #[.ref t,.none,.none,.none,.bool false,.none],slots:=sl }∧E (.ref e) s₁) E s):wpAny M A (raiseStmt env (some x) none) Q E s:=by
 unfold raiseStmt
 refine wpAny_bind (wpAny_mono h (fun v s₁ h₁=>?_) fun _ _ x=>x)
 obtain⟨e,t,od,sl,C,nm,q,N,bs,bm,hdct,sn,sub,ab,col,dd,k0,k1,k2,k3,k5,newId,rfl,hbase,hC,he,hE⟩:=h₁
 have hcB:(Value.ref C::bm).contains (.type "BaseException")=true:=by rw[List.contains_cons,hbase,Bool.or_true]
 obtain⟨hp,g,d,tk,os⟩:=s₁
 repeat (first | with_reducible refine wpAny_loadPart_at he ?_ | with_reducible refine wpAny_loadPart_at hC ?_ | (with_reducible refine wpAny_isSubtype_exc hC ?_;rw[hcB]) | wp_step)
 exact wpAny_raiseNew_none hh hE
end
def CXr (P:Program)(w:World):CXT:=fun outer H s E ev s'=>∃(e C:Addr) (d:Option Addr) (H':Hp) (h1 B:Heap),ev=.ref e∧s'.os=s.os∧AllBare s'.gens∧Un (frs outer) [] H H' s.heap h1∧HOk P w H' h1∧H' e=some (xr e C d) ∧
 (∀b o,h1.get? b=some o→b≠e→((∃u,H' b=some u)∨((∃o',s.heap.get? b=some o')∧b∉frs outer))→B.get? b=some o)∧Fly B outer e (.ref C) d .none s'.heap∧h1.UpToSlots s'.heap∧E (.ref C) (some e) H'
def Raises (X:Cx)(Ex:XK):Prop:=∀(pins:List (Addr×Obj)) (σ:St) (H:Hp) (s:Shared) (e C:Addr) (d:Option Addr),Inv X pins σ H s→H e=some (xo e C d)→Ex (.ref C) (some e) (upd H e (xr e C d))→X.xe (.ref e) s
theorem Inv.raised {X:Cx}{pins:List (Addr×Obj)}{σ:St}{H:Hp}{s:Shared}{e C:Addr}{d:Option Addr}(I:Inv X pins σ H s)(h:H e=some (xo e C d)):Inv X pins σ (upd H e (xr e C d)) s:=by
 obtain⟨o,t,h1,h2,h3,h4⟩:=ZcZ I h
 exact I.write (x:=e) (e:=e) (o:=xr e C d) (h':=s.heap) (t':=s.toks) (by rw[h];exact trivial) (.inl rfl) (fun b u _ q=>q) ⟨o,h1⟩ (Zi4 h1 h2 h3 h4)
theorem ZiJ {h:Heap}{as:List Addr}{b:Addr}{o:Obj}(e:(PySem.W.hideAll h as).get? b=some o):h.get? b=some o:=PySem.W.of_hideAll _ e
theorem ZgR {P:Program}{w:World}{K:Frag}{mg:Str→Option Value}{base:Heap}{N:List Str}{qual:Str}{scope:Scope}{f:Addr}{cd:Value}{A:Around}{outer:List Env}{s0:Shared}{H0:Hp}{E:XK}:
  Raises (cxOf (CXr P w) P w K mg base N qual scope f cd A outer s0 H0 E) E:=by
 intro pins σ H s e C d I he hE
 obtain⟨o,t,h1,h2,h3,h4⟩:=ZcZ I he
 have J:=I.raised he
 generalize hX:cxOf (CXr P w) P w K mg base N qual scope f cd A outer s0 H0 E=X at I J ⊢
 have eA:X.A=A.deeper (envOfC qual scope s0.heap.objs.size f cd):=by rw[←hX];rfl
 have eS:X.stack=envOfC qual scope s0.heap.objs.size f cd::outer:=by rw[←hX];rfl
 have eF:X.fs=frs outer:=by rw[←hX];rfl
 have e0:X.s₀=s0:=by rw[←hX];rfl
 have eH:X.H₀=H0:=by rw[←hX];rfl
 have eX:X.ex=[]:=by rw[←hX];rfl
 have eL:X.env=envOfC qual scope s0.heap.objs.size f cd:=by rw[←hX];rfl
 have ePr:X.prog=P:=by rw[←hX];rfl
 have eW:X.w=w:=by rw[←hX];rfl
 have hxe:∀ev s',wpAny (model P w) (A.deeper (envOfC qual scope s0.heap.objs.size f cd)) (leaving (envOfC qual scope s0.heap.objs.size f cd) ev) (fun _ s''=>CXr P w outer H0 s0 E ev s'') (fun e' s''=>CXr P w outer H0 s0 E e' s'') s'→X.xe ev s':=by
  intro ev s' z;rw[←hX];exact z
 refine hxe _ _ ?_
 have hfr:(A.deeper (envOfC qual scope s0.heap.objs.size f cd)).frames=some (envOfC qual scope s0.heap.objs.size f cd::outer):=by rw[←eA,←eS];exact I.ok.frames
 have stk:s.heap.FunFrames X.base X.stack:=I.stack
 have hin:∀env∈X.stack,∀a,env.frame=some a→a∈frs X.stack++[e]:=fun env henv a ha=>List.mem_append_left _ (List.mem_filterMap.mpr ⟨env,henv,ha⟩)
 have ff:=PySem.W.funFrames_hide (as:=frs X.stack++[e]) stk hin
 rw[eS]at ff
 have stays:(PySem.W.hideAll s.heap (frs (envOfC qual scope s0.heap.objs.size f cd::outer)++[e])).StaysIn s.heap:=fun b o q=>ZiJ q
 refine ZeG (B:=PySem.W.hideAll s.heap (frs (envOfC qual scope s0.heap.objs.size f cd::outer)++[e])) (L:=s0.heap.objs.size) hfr ff rfl h1 stays (PySem.W.hideAll_none _ (by simp)) h2 h3 h4 (by simp) fun h' fl up=>?_
 have os:s.os=s0.os:=by rw[←e0];exact I.os
 have un:Un (frs outer) [] H0 (upd H e (xr e C d)) s0.heap s.heap:=by
  have:=J.base
  rwa [eF,eX,eH,e0]at this
 have ok:HOk P w (upd H e (xr e C d)) s.heap:=by
  have:=J.hok
  rwa [ePr,eW]at this
 refine⟨e,C,d,upd H e (xr e C d),s.heap,_,rfl,os,I.bare,un,ok,ZaH,fun b o hb hne hc=>?_,fl,up,hE⟩
 refine PySem.W.hideAll_get _ hb fun z=>?_
 rcases List.mem_append.mp z with z | z
 ·have z':b∈frs X.stack:=by rw[eS];exact z
  rcases hc with⟨u,hu⟩|⟨⟨o',ho'⟩,hn⟩
  ·rw[J.stkFree b z']at hu;cases hu
  ·rcases List.mem_cons.mp (I.stkSub b z') with q | q
   ·rw[q,eL]at ho'
    exact absurd (Heap.lt_size ho') (Nat.lt_irrefl _)
   ·rw[eF]at q;exact hn q
 ·exact hne (by simpa using z)
def ZhN (K:Frag)(Ex:XK)(te:TE):TS:=fun _ σ H=>te σ H fun v H1=>∃e C d,v=.ref e∧H1 e=some (xo e C d)∧Xm K C∧Ex (.ref C) (some e) (upd H1 e (xr e C d))
theorem Zhf {X:Cx}{Ex:XK}{e:Expr}{te:TE}{pos:Pos}(hR:Raises X Ex)(hc:X.calm=true)(he:PE X e te):PS X (.Raise (some e) none pos) (ZhN X.K Ex te):=by
 intro pins s σ H D I h
 rw[arm_exec_Raise]
 show wpAny _ X.A (do standAt pos;raiseStmt X.env (some (do let v ←eval e X.env;standAt pos;pure v)) none) _ _ s
 refine wpAny_bind (wpAny_standAt ?_)
 refine Zgd (I.ok.hd hc) (wpAny_bind (thn (he pins s σ H _ I h) fun v s1 ⟨x,H1,I1,r1,a,C,d,ex,hx,m,q⟩=>wpAny_bind (wpAny_standAt (wpAny_pure ?_))))
 subst ex
 obtain rfl:v=Value.ref a:=r1
 obtain⟨o,t,h1,h2,h3,h4⟩:=ZcZ I1 hx
 obtain⟨nm,q',N,bs,bm,hdct,sn,sub,ab,col,dd,k0,k1,k2,k3,k5,hl,hxm⟩:=m.parts
 obtain⟨oc,odi,oda,osl⟩:=o
 dsimp only at h2 h3 h4
 subst h2 h3 h4
 have hb:(Value.ref C::bm).contains (.type "BaseException")=true:=Zbz (by decide +kernel) hxm
 rw[List.contains_cons]at hb
 refine⟨a,t,_,_,C,nm,q',N,bs,bm,hdct,sn,sub,ab,col,dd,k0,k1,k2,k3,k5,_,rfl,?_,I1.kIn _ _ hl,h1,hR pins σ H1 s1 a C _ I1 hx q⟩
 have z:(Value.type "BaseException" == Value.ref C)=false:=rfl
 rw[z,Bool.false_or]at hb
 exact hb
section
variable {P:Program}{w:World}{K:Frag}{mg:Str→Option Value}{base:Heap}
theorem Fun.okX {x qual:Str}{st:Stmt}{f:Addr}{fd:FuncData}{N ps:List Str}{k:Nat}{sp:Sp}(F:Fun K x qual st f fd)(S:FnScope N ps (Zah st))(len:∀vs H Q E,sp vs H Q E→vs.length=ps.length)
  (hbody:∀(cdv:Value) (A:Around) (outer:List Env) (s:Shared) (H:Hp) (vs:List V) (Q:VK) (E:XK),Room k (A.deeper (envOfC qual (Zah st) s.heap.objs.size f cdv))→sp vs H Q E →
   ∃t,PSs (cxOf (CXr P w) P w K mg base N qual (Zah st) f cdv A outer s H E) (Zbf st) t∧t { nx:=fun _ H'=>Q .non H',rt:=Q } (start N vs) H):FnOk P w K mg base (CXr P w) (k+1) f fd ps sp:=by
 obtain⟨oc,od,kV,doc,pm,an,cdv,ct,osl,rfl,lk,hcd⟩:=F.ex
 exact Zki lk hcd S len fun A outer s H vs Q E hr hsp=>hbody cdv A outer s H vs Q E hr hsp
end
abbrev TX:=St→Hp→VK→XK→Prop
def PEx (X:Cx)(e:Expr)(t:TX):Prop:=∀(pins:List (Addr×Obj)) (s:Shared) (σ:St) (H:Hp) (Q:VK) (E:XK),Inv X pins σ H s→t σ H Q E →
 wpAny (model X.prog X.w) X.A (eval e X.env) (EP X pins σ Q) (fun ev s'=>∃H2 s2,Inv X pins σ H2 s2∧CXr X.prog X.w X.stack H2 s2 E ev s') s
abbrev TSx:=Ends→(St→XK)→St→Hp→Prop
def XH (X:Cx)(pins:List (Addr×Obj))(Ex:St→XK)(ev:Value)(s':Shared):Prop:=∃σ' H2 s2,Inv X pins σ' H2 s2∧CXr X.prog X.w X.stack H2 s2 (Ex σ') ev s'
def PSx (X:Cx)(st:Stmt)(t:TSx):Prop:=∀(pins:List (Addr×Obj)) (s:Shared) (σ:St) (H:Hp) (D:Ends) (Ex:St→XK),Inv X pins σ H s→t D Ex σ H→wpAny (model X.prog X.w) X.A (exec st X.env) (SP X pins D) (XH X pins Ex) s
def PSsx (X:Cx)(st:List Stmt)(t:TSx):Prop:=∀(pins:List (Addr×Obj)) (s:Shared) (σ:St) (H:Hp) (D:Ends) (Ex:St→XK),Inv X pins σ H s→t D Ex σ H→wpAny (model X.prog X.w) X.A (execs st X.env) (SP X pins D) (XH X pins Ex) s
section
variable {X:Cx}{CX:CXT}{k:Nat}{f C:Addr}{fd:FuncData}{ps:List Str}{sp:Sp}{dvs:List V}{ds:List Value}{x m:Str}{p pos apos:Pos}{e o:Expr}{es:List Expr}{ta:TE}{t:TA}
theorem Zim {pins:List (Addr×Obj)}{σ:St}{H:Hp}{s:Shared}{Q:VK}{E:XK}{us:List Value}{vs:List V}(F:FnOk X.prog X.w X.K X.mg X.base (CXr X.prog X.w) k f fd ps sp)(hr:Room k X.A)(hb:Binds X.K fd ps ds)(hd:Vals dvs ds)
  (I:Inv X pins σ H s) (r:Vals vs us) (h:sp (vs++dvs) H Q E):wpAny (model X.prog X.w) X.A (call (.ref f) us) (EP X pins σ Q) (fun ev s'=>∃H2 s2,Inv X pins σ H2 s2∧CXr X.prog X.w X.stack H2 s2 E ev s') s:=by
 have r2:Vals (vs++dvs) (us++ds):=r.append hd
 have hl:(us++ds).length=ps.length:=by rw[←r2.length];exact F.len _ _ _ _ h
 refine wpAny_call (codeAny_mono (F.run X.A X.stack s H ⟨us,[]⟩ (us++ds) (vs++dvs) Q E hr I.env0 (hb s us I.kIn hl) r2 h) fun r s' hq=>?_)
 cases r with
 | error e=>exact⟨H,s,I,hq⟩
 | ok fl=>
  cases fl with
  | ret u=>exact I.after hq
  | next=>exact False.elim hq
  | brk=>exact False.elim hq
  | cont=>exact False.elim hq
def ZhO (sp:Sp)(dvs:List V)(t:TA):TX:=fun σ H Q E=>t σ H fun vs H1=>sp (vs++dvs) H1 Q E
theorem Zhg (F:FnOk X.prog X.w X.K X.mg X.base (CXr X.prog X.w) k f fd ps sp)(hr:Room k X.A)(hg:Gl X x)(hm:X.mg x=some (.ref f))(hk:PySem.W.keepIn X.K (.ref f)=true)(hb:Binds X.K fd ps ds)(hd:Vals dvs ds)
  (ha:PA X.nox (e::es) t) (hdb:(x == ("__debug__":Str))=false:=by decide) (he:starEach (e::es) X.env=(false,eval e X.env)::starEach es X.env:=by rfl) (hpl:(backTo pos (starEach es X.env)).any (·.1)=false:=by rfl):
  PEx X (.Call (.Name x p) (e::es) [] pos) (ZhO sp dvs t):=by
 intro pins s σ H Q E I h
 refine wpAny_Call_Name_kw (ZbN I hg hm ?_ hdb)
 refine PySem.W.callWith_K (h₀:=X.base) I.ok.mod.kin hk (wpAny_mono (ha pos pins s σ H _ (I.wish _) h) (fun us s1 ⟨vs,H1,I1,r,q⟩=>⟨I1.kIn,?_⟩) fun _ _ z=>False.elim z) he hpl
 exact Zim F hr hb hd I1.unwish r q
def Zjt (i:Nat)(te:TX):TSx:=fun D Ex σ H=>te σ H (fun y H1=>D.nx (σ.set i (some y)) H1) (Ex σ)
theorem Zlk {i:Nat}{te:TX}{pos':Pos}(hN:X.N.Nodup)(hi:X.N[i]?=some x)(hx:Loc X.env.scope x)(he:PEx X e te)(hs:swapsWith e (some (.Name x pos')) pos.line X.env=pure false:=by rfl)(hf:X.fn x=true∨X.env.scope.names.lookup x=some .local:=by first | exact .inl rfl | exact .inr rfl | assumption):
  PSx X (.Assign [.Name x pos'] e pos) (Zjt i te):=by
 intro pins s σ H D Ex I h
 refine wpAny_Assign_Name (wpAny_mono (he pins s σ H _ _ I h) (fun v s1 ⟨y,H1,I1,r1,q1⟩=>?_) fun ev s' ⟨H2,s2,I2,q⟩=>⟨σ,H2,s2,I2,q⟩) hs
 exact ZbR I1 hN hi hx r1 (fun s2 I2=>⟨_,H1,I2,q1⟩) hf
def ZhP (te:TX):TSx:=fun D Ex σ H=>te σ H (fun _ H1=>D.nx σ H1) (Ex σ)
theorem Zhd {te:TX}(he:PEx X e te)(hs:swapsWith e none pos.line X.env=pure false:=by rfl):PSx X (.Expr e pos) (ZhP te):=by
 intro pins s σ H D Ex I h
 exact wpAny_Expr_any (wpAny_mono (he pins s σ H _ _ I h) (fun v s1 ⟨y,H1,I1,r1,q1⟩=>⟨σ,H1,I1,q1⟩) fun ev s' ⟨H2,s2,I2,q⟩=>⟨σ,H2,s2,I2,q⟩) I.quiet hs
theorem Zhe {st:Stmt}{t:TSx}(h1:PSx X st t):PSsx X [st] t:=by
 intro pins s σ H D Ex I h
 refine wpAny_execs_cons (thn (h1 pins s σ H D Ex I h) fun f s1 q=>?_)
 cases f with
 | next=>exact wpAny_execs_nil q
 | ret v=>exact q
 | brk=>exact q
 | cont=>exact q
def sIfx (c:TT)(t u:TSx):TSx:=fun D Ex σ H=>c σ H fun b H1=>if b=true then t D Ex σ H1 else u D Ex σ H1
end
section
variable {X:Cx}{pins:List (Addr×Obj)}{σ:St}{H H':Hp}{s s1:Shared}{e C:Addr}{d:Option Addr}{h1 h5 B:Heap}
theorem ZfJ (I:Inv X pins σ H s)(os:s1.os=s.os)(bare:AllBare s1.gens)(un:Un (frs X.stack) [] H H' s.heap h1)(ok:HOk X.prog X.w H' h1)(he:H' e=some (xr e C d))
  (kept:∀b o,h1.get? b=some o→b≠e→((∃u,H' b=some u)∨((∃o',s.heap.get? b=some o')∧b∉frs X.stack))→B.get? b=some o) (fl:Fly B X.stack e (.ref C) d .none h5) (up:h1.UpToSlots h5):
  Inv X pins σ H' { s1 with heap:=h5 }:=by
 have ne:∀b o,s.heap.get? b=some o→H b=none→b≠e:=fun b o q n z=>by
  have:=un.free b o q n (by simp)
  rw[z,he]at this
  cases this
 have keep:∀b o,s.heap.get? b=some o→H b=none→b∉frs X.stack→h5.get? b=some o:=fun b o q n nf=>
  fl.st b o (kept b o (un.keep b o q n nf (by simp)) (ne b o q n) (.inr ⟨⟨o,q⟩,nf⟩))
 have slot:∀b o,s.heap.get? b=some o→H b=none→b∈frs X.stack→∃sl,h5.get? b=some { o with slots:=sl }:=fun b o q n hf=>by
  obtain⟨sl,q1⟩:=un.slot b o q n hf (by simp)
  obtain⟨_,o',ho',hnf⟩:=I.stack.mem hf
  rw[q]at ho'
  cases ho'
  obtain⟨sl2,q2⟩:=up b _ q1 hnf
  exact⟨sl2,q2⟩
 have trk:∀c u,(∃v,H' c=some v)→h1.get? c=some u→c≠e→h5.get? c=some u:=fun c u hv q n=>fl.st c u (kept c u q n (.inl hv))
 refine I.call' (s':={ s1 with heap:=h5 }) (ch:=[]) os ⟨fun b o q n nf _=>keep b o q n nf,fun b o q n hf _=>slot b o q n hf,fun b o q n _=>un.free b o q n (by simp),fun b o q _=>?_,un.tups,un.frzs,un.tbls⟩ (fun b ob hb=>?_) bare (fun b hb=>by cases hb)
 ·by_cases hbe:b=e
  ·obtain⟨oe,vs,T,oT,ts,h1,_⟩:=fl.tr
   exact⟨oe,by rw[hbe];exact h1⟩
  ·cases hH:H b with
   | none=>
    by_cases hf:b∈frs X.stack
    ·obtain⟨sl,q2⟩:=slot b o q hH hf
     exact⟨_,q2⟩
    ·exact⟨o,keep b o q hH hf⟩
   | some u=>
    obtain⟨o',q1⟩:=un.there b o q (by simp)
    by_cases hf:b∈frs X.stack
    ·rw[I.stkFree b hf]at hH;cases hH
    ·exact⟨o',fl.st b o' (kept b o' q1 hbe (.inr ⟨⟨o,q⟩,hf⟩))⟩
 ·by_cases hbe:b=e
  ·subst hbe
   rw[he]at hb
   cases hb
   obtain⟨oe,vs,T,oT,ts,g1,g2,g3,g4,_⟩:=fl.tr
   exact Zi4 g1 g2 g3 g4
  ·refine(ok b ob hb).stay (fun c u hc q=>trk c u ?_ q ?_) (fun _ q=>q) fun _ _ q=>q
   ·rcases hc with z | z
    ·exact⟨ob,z▸hb⟩
    ·exact⟨_,z⟩
   ·rintro rfl
    rcases hc with z | z
    ·exact hbe z.symm
    ·rw[he]at z;cases z
end
def sux (X:Cx)(e:Addr):Cx:={ X with A:=X.A.mark (some (.ref e)),calm:=false,xe:=fun _ _=>False }
section
variable {X:Cx}{pins:List (Addr×Obj)}{σ:St}{H:Hp}{s:Shared}{e:Addr}
theorem Inv.sux (I:Inv X pins σ H s)(e:Addr):Inv (L2.sux X e) pins σ H s:=
 ⟨⟨I.ok.mod,I.ok.kind,I.ok.glob,I.ok.blt,I.ok.above,I.ok.inj,I.ok.has,I.ok.cab,(fun z=>by cases z),I.ok.frames,I.ok.stk,I.ok.exf,I.ok.bs,I.ok.bsz,I.ok.noex,I.ok.exfs,I.ok.funs,I.ok.frf⟩,I.os,I.bare,I.base,I.loc,I.cell,I.free,I.freeC,I.pin,I.hok,I.len⟩
theorem Inv.unsux (hh:X.calm=true→X.A.handled=none)(I:Inv (L2.sux X e) pins σ H s):Inv X pins σ H s:=
 ⟨⟨I.ok.mod,I.ok.kind,I.ok.glob,I.ok.blt,I.ok.above,I.ok.inj,I.ok.has,I.ok.cab,hh,I.ok.frames,I.ok.stk,I.ok.exf,I.ok.bs,I.ok.bsz,I.ok.noex,I.ok.exfs,I.ok.funs,I.ok.frf⟩,I.os,I.bare,I.base,I.loc,I.cell,I.free,I.freeC,I.pin,I.hok,I.len⟩
theorem Inv.unbind {i:Nat}{x:Str}{v:Option Value}{m:Str→Option Value}{h':Heap}{t':Nat}(I:Inv X pins σ H s)(hN:X.N.Nodup)(hi:X.N[i]?=some x)(hm:∀(i:Nat) (x:Str) (v:V),X.N[i]?=some x→σ[i]?=some (some v)→Vis X.env.scope x→∃u,RelV v u∧Look X.env s.heap m x u)
  (hn':h'.Ns X.env.locals (fun y=>if y=x then v else m y)) (hs:Heap.SameBut X.env.locals s.heap h'):Inv X pins (σ.set i none) H { s with heap:=h',toks:=t' }:=by
 obtain⟨m0,hn,_⟩:=id I.loc
 obtain⟨oL,_,_,hoL,_⟩:=id hn
 have ab:∀b o,X.s₀.heap.get? b=some o→b≠X.env.locals:=fun b o e=>Nat.ne_of_lt (Nat.lt_of_lt_of_le (Heap.lt_size e) I.ok.above)
 refine⟨I.ok,I.os,I.bare,⟨fun b o e n hb hx=>(hs.2 b (ab b o e)).trans (I.base.keep b o e n hb hx),fun b o e n hb hx=>?_,I.base.free,fun b o e hx=>?_,I.base.tups,I.base.frzs,I.base.tbls⟩,⟨_,hn',fun j y v' e1 e2 e3=>?_⟩,fun y c e=>?_,I.free,I.freeC,fun p hp=>?_,fun b ob e=>?_,by simpa using I.len⟩
 ·obtain⟨sl,e1⟩:=I.base.slot b o e n hb hx
  exact⟨sl,(hs.2 b (ab b o e)).trans e1⟩
 ·obtain⟨o',e1⟩:=I.base.there b o e hx
  exact⟨o',(hs.2 b (ab b o e)).trans e1⟩
 ·have hj:j≠i:=by
   rintro rfl
   by_cases hl:j<σ.length
   ·rw[List.getElem?_set_self hl]at e2;cases e2
   ·rw[List.set_eq_of_length_le (Nat.le_of_not_lt hl),List.getElem?_eq_none (Nat.le_of_not_lt hl)]at e2;cases e2
  rw[List.getElem?_set_ne (Ne.symm hj)]at e2
  obtain⟨u',r',q⟩:=hm j y v' e1 e2 e3
  refine⟨u',r',?_⟩
  rcases q with⟨k,e⟩|⟨k,c,e,z⟩
  ·refine .inl ⟨k,?_⟩
   have:y≠x:=fun e=>hj (Zdv hN e1 (e▸hi))
   simp[this,e]
  ·exact .inr ⟨k,c,e,z.sameBut hs (I.cne y c e)⟩
 ·obtain⟨w',z⟩:=I.cell y c e
  exact⟨w',z.sameBut hs (I.cne y c e)⟩
 ·obtain⟨e,n,ne,nf,d⟩:=I.pin p hp
  exact⟨(hs.2 p.1 ne).trans e,n,ne,nf,d⟩
 ·refine(I.hok b ob e).stay (fun c w' hc q=>(hs.2 c ?_).trans q) (fun _ q=>q) fun _ _ q=>q
  rintro rfl
  rcases hc with z | hc
  ·rw[←z,I.free]at e;cases e
  ·rw[I.free]at hc;cases hc
end
abbrev TH:=Addr→Addr→Ends→St→Hp→Prop
def PHs (X:Cx)(hs:List ExceptHandler)(th:TH):Prop:=∀(pins:List (Addr×Obj)) (s:Shared) (σ:St) (H:Hp) (D:Ends) (e C:Addr) (d:Option Addr) (B:Heap),(∀h5,Fly B X.stack e (.ref C) d .none h5→s.heap.UpToSlots h5→Inv X pins σ H { s with heap:=h5 })→H e=some (xr e C d)→Fly B X.stack e (.ref C) d .none s.heap→th e C D σ H →
 wpAny (model X.prog X.w) X.A (handleBy (.ref e) X.env hs) (SP X pins D) X.xe s
def unE (i:Nat)(D:Ends):Ends:={ nx:=fun σ H=>D.nx (σ.set i none) H,rt:=D.rt,bk:=fun σ H=>D.bk (σ.set i none) H,ct:=fun σ H=>D.ct (σ.set i none) H }
def hAs (K:Frag)(C0:Addr)(i:Nat)(ts:TS)(tr:TH):TH:=fun e C D σ H=>∃b,PySem.W.exmOne K (.ref C) (.ref C0)=some b∧if b=true then ts (unE i D) (σ.set i (some (.ref e))) H else tr e C D σ H
def hNone:TH:=fun _ _ _ _ _=>False
theorem ZjD {X:Cx}:PHs X [] hNone:=fun _ _ _ _ _ _ _ _ _ _ _ _ h=>h.elim
theorem Zgr {M:Model}{h:Heap}{e C:Addr}{o:Obj}(h1:h.get? e=some o)(h2:o.cls=.ref C):Looks M h (typeOf (.ref e)) (.ref C):=by
 intro A Q E s k q
 have h1':=k _ _ h1
 obtain⟨hp,g,d,tk,os⟩:=s
 unfold typeOf
 repeat (first | (with_reducible refine wpAny_loadPart_at h1' ?_;rw[h2]) | wp_step)
 exact q
section
variable {X:Cx}{x n:Str}{np pos:Pos}{b₀:Stmt}{suite:List Stmt}{rest:List ExceptHandler}{ts:TS}{tr:TH}{C0:Addr}{i:Nat}
theorem Zll (hc:X.calm=true→X.A.handled=none)(hg:Gl X x)(hm:X.mg x=some (.ref C0))(hN:X.N.Nodup)(hi:X.N[i]?=some n)(hl:X.env.scope.names.lookup n=some .local)(hs:∀e,PSs (sux X e) (b₀::suite) ts)(hr:PHs X rest tr)
  (hdb:(x == ("__debug__":Str))=false:=by decide):PHs X (.ExceptHandler (some (.Name x np)) (some n) (b₀::suite) pos::rest) (hAs X.K C0 i ts tr):=by
 intro pins s σ H D e C d B cv he fl h
 obtain⟨b,hb,h⟩:=h
 have I:Inv X pins σ H s:=cv s.heap fl (Heap.UpToSlots.refl _)
 have J:=I.sux e
 refine wpAny_handleBy_cons (codeAny_handlers_test (ZbN (X:=sux X e) J hg hm ?_ hdb)) (by intro q;cases q)
 obtain⟨oe,vs,T,oT,tt,g1,g2,_⟩:=id fl.tr
 refine(PySem.W.exm_one (M:=model X.prog X.w) I.kIn (Zgr g1 g2) hb).here ?_
 have hp:(X.env.scope.kind == .class || (X.env.scope.kind == .module&&X.env.locals != X.env.globals))=false:=by rw[I.ok.kind];rfl
 cases b with
 | false=>exact hr pins s σ H D e C d B cv he fl h
 | true=>
  refine codeAny_handlers_suite_as (ZbP fl fun h6 fl6 up6=>?_)
  have J6:=(cv h6 fl6 up6).sux e
  refine ZbR (X:=sux X e) (i:=i) J6 hN hi (.inl hl) (v:=.ref e) rfl (fun s7 I7=>?_) (.inr hl)
  refine wpAny_mono (hs e pins s7 _ H (unE i D) I7 h) (fun f s8 q=>?_) fun _ _ z=>False.elim z
  have goes:∀ {σ8:St} {H8:Hp} {Q:Unit→Shared→Prop} (I8:Inv (sux X e) pins σ8 H8 s8),(∀s9,Inv X pins (σ8.set i none) H8 s9→Q () s9)→wpAny (model X.prog X.w) X.A (do bindName X.env n .none;unbindBehindTheSuite X.env n pos) Q X.xe s8:=fun {σ8 H8 Q} I8 k=>by
   have I9:=I8.unsux hc
   obtain⟨m,hn,hm'⟩:=I9.loc
   exact wpAny_nameGoes_keeps hl hn hp fun h' v hn' sb=>k _ (I9.unbind hN hi hm' hn' sb)
  cases f with
  | next=>
   obtain⟨σ8,H8,I8,q8⟩:=q
   exact goes I8 fun s9 I9=>⟨_,H8,I9,q8⟩
  | brk=>
   obtain⟨σ8,H8,I8,q8⟩:=q
   exact goes I8 fun s9 I9=>⟨_,H8,I9,q8⟩
  | cont=>
   obtain⟨σ8,H8,I8,q8⟩:=q
   exact goes I8 fun s9 I9=>⟨_,H8,I9,q8⟩
  | ret u=>
   obtain⟨v,σ8,H8,I8,r8,q8⟩:=q
   exact goes I8 fun s9 I9=>⟨v,_,H8,I9,r8,q8⟩
def Zkh (K:Frag)(C0:Addr)(ts:TS)(tr:TH):TH:=fun e C D σ H=>∃b,PySem.W.exmOne K (.ref C) (.ref C0)=some b∧if b=true then ts D σ H else tr e C D σ H
def tTry (tb:TSx)(th:TH):TS:=fun D σ H=>tb D (fun σ' cls oe H'=>∃e C,cls=.ref C∧oe=some e∧th e C D σ' H') σ H
theorem ZjB {body:List Stmt}{h₀:ExceptHandler}{hs:List ExceptHandler}{tb:TSx}{th:TH}(hst:X.stack=X.env::X.outer)(hfr:X.env.frame=some X.env.locals)(hb:PSsx X body tb)(hh:PHs X (h₀::hs) th):
  PS X (.Try body (h₀::hs) [] [] pos) (tTry tb th):=by
 intro pins s σ H D I h
 refine wpAny_Try_except (wpAny_mono (hb pins s σ H D _ I h) (fun f s1 q=>?_) fun ev s1 q=>?_)
 ·cases f with
  | next=>exact wpAny_execs_nil q
  | ret v=>exact q
  | brk=>exact q
  | cont=>exact q
 ·obtain⟨σ',H2,s2,I2,e,C,d,H',h1,B,rfl,os,bare,un,ok,he,kept,fl,up,e',C',ec,ee,hth⟩:=q
  cases ec
  cases ee
  have fr:X.A.frames=some (X.env::X.outer):=by rw[←hst];exact I.ok.frames
  rw[hst]at fl
  refine Zgl fr hfr fl fun h4 fl4 up4=>ZbP (s:={ s1 with heap:=h4 }) fl4 fun h5 fl5 up5=>?_
  rw[←hst]at fl5
  exact hh pins { s1 with heap:=h5 } σ' H' D e C d B (fun h6 fl6 up6=>ZfJ (s1:=s1) I2 os bare un ok he kept fl6 (up.trans (up4.trans (up5.trans up6)))) he fl5 hth
end
end L2
namespace L2
open PySem PySem.Spec PyProof.Rows
open PySem.W (Frag findIn specialIn typeIn mroIn clsIn subIn kitOne kitCls InstAt Looks)
section
variable {X:Cx}{pins:List (Addr×Obj)}{σ:St}{H:Hp}{s:Shared}{e C:Addr}{fs:List (Str×V)}{f:Str}{v:V}{A:Around}{E:Value→Shared→Prop}
theorem ZhK {d:Option Addr}(I:Inv X pins σ H s)(h:H e=some (xr e C d)):∃(o:Obj) (vs:Array Value),s.heap.get? e=some o∧o.cls=.ref C∧o.dict=d∧o.data=.fields vs:=(I.hok e _ h).1
theorem XAny.inst (I:Inv X pins σ H s)(x:XAny H e C fs):∃(ox:Obj) (od:Option Obj),InstAt s.heap e ox C od∧∀name,∃r,(match od with | some o=>PySem.W.lookIn name o | none=>some none)=some r∧RelO (fs.lookup name) r:=by
 cases x with
 | un h=>exact h.inst I
 | bare h=>
  obtain⟨o,vs,h1,h2,h3,h4⟩:=ZhK I h
  exact⟨o,none,⟨h1,h2,by unfold PySem.W.notCls;rw[h4],by rw[h3];trivial⟩,fun name=>⟨none,rfl,by trivial⟩⟩
 | @full d _ h h' hne=>
  obtain⟨o,vs,h1,h2,h3,h4⟩:=ZhK I h
  obtain⟨⟨_,mA,hn,hr,_⟩,_⟩:=I.hok d _ h'
  obtain⟨od,hod,hl⟩:=ZcH hn
  exact⟨o,some od,⟨h1,h2,by unfold PySem.W.notCls;rw[h4],by rw[h3];exact hod⟩,fun name=>⟨mA name,hl name,hr name⟩⟩
end
def Zjd (K:Frag)(ta:TE)(f:Str):TE:=fun σ H Q=>ta σ H fun x H1=>∃e C fs v,x=.ref e∧XAny H1 e C fs∧Xc K C∧NoAttr K C f∧fs.lookup f=some v∧Q v H1
inductive TyR (K:Frag) (H:Hp):V→Value→Prop where
 | ty {x:V} {t:Value} (h:TyX K H x t):TyR K H x t
 | exc {e C:Addr} {fs:List (Str×V)} (x:XAny H e C fs) (i:Xi K C):TyR K H (.ref e) (.ref C)
theorem ZaZ {X:Cx}{K:Frag}(hK:X.K=K):Zcl X (.builtin "isinstance") (fun xs H Q=>∃x c t k b,xs=[x,c]∧clsV c=some k∧TyR K H x t∧kitOne K t k=some b∧Q (.bl b) H):=by
 subst hK
 rintro pins s σ H xs us Q I r ⟨x,c,t,k,b,rfl,hk,ty,e,q⟩
 cases ty with
 | ty h=>exact ZeP pins s σ H _ us Q I r ⟨x,c,t,k,b,rfl,hk,h,e,q⟩
 | exc xa i=>
  obtain⟨u,v,rfl,ru,rv⟩:=r.two
  have hv:v=k:=by
   cases c with
   | ref a=>cases hk;exact rv
   | ty n=>cases hk;exact rv
   | _=>cases hk
  subst hv
  cases ru
  obtain⟨ox,od,J,_⟩:=xa.inst I
  exact PySem.W.kia_one (Zfa i) I.kIn J e (fun z=>nomatch z) fun tk=>⟨.bl b,H,I.tok _,rfl,q⟩
theorem ZiQ {K:Frag} {C D:Addr} {m1 m2:List Value} {b:Bool} (c:ClsOk K C m1) (d:ClsOk K D m2) (hb:m2.contains (.type "BaseException")=true) (h:m1.contains (.ref D)=b):PySem.W.exmOne K (.ref C) (.ref D)=some b:=by
 obtain⟨cd,e1,e2⟩:=c.cd
 obtain⟨cd',e3,e4⟩:=d.cd
 have hs:PySem.W.subIn K (.ref D) (.type "BaseException")=some true:=by
  unfold PySem.W.subIn PySem.W.mroIn
  dsimp only
  rw[e3,Option.bind_some,e4,d.ne,hb]
  rfl
 unfold PySem.W.exmOne
 rw[if_pos (by rw[hs];rfl)]
 unfold PySem.W.kitCls
 dsimp only
 rw[e3,d.ty]
 simp only[Option.isSome_some,Bool.true_and,beq_self_eq_true,if_true]
 unfold PySem.W.subIn PySem.W.mroIn
 dsimp only
 rw[e1,Option.bind_some,e2,c.ne,h]
 rfl
end L2
namespace L2
open PySem PySem.Spec PyProof.Rows
open PySem.W (Frag)
theorem ObjOk.there {P:Program}{w:World}{H:Hp}{h:Heap}{a:Addr}:∀ {o:HO},ObjOk P w H h a o→∃u,h.get? a=some u
 | .lst _,x=>by obtain⟨_,_,_,_,e⟩:=x;exact⟨_,e⟩
 | .tup _,x=>by obtain⟨_,_,_,ob,e,_⟩:=x;exact⟨_,e⟩
 | .dK _,x=>by obtain⟨_,_,_,_,ob,_,_,e,_⟩:=x;exact⟨_,e⟩
 | .dT _,x=>by obtain⟨_,_,_,_,ob,_,_,e,_⟩:=x;exact⟨_,e⟩
 | .set _ _,x=>by obtain⟨ob,_,_,_,e,_⟩:=x;exact⟨_,e⟩
 | .ins _ _ _,x=>by obtain⟨_,_,_,e,_⟩:=x;exact⟨_,e⟩
 | .own _,x=>x
 | .xd _,x=>by obtain⟨_,⟨ob,_,_,e,_⟩,_⟩:=x;exact⟨_,e⟩
 | .met _ _,x=>⟨_,x⟩
 | .rng _ _,x=>by obtain⟨_,_,_,e⟩:=x;exact⟨_,e⟩
 | .frz _ _,x=>⟨_,x.1⟩
 | .tbl _,x=>⟨_,x⟩
 | .ext _,x=>x.2.1
theorem HOk.none_of {P:Program}{w:World}{H:Hp}{h:Heap}{a:Addr}(ok:HOk P w H h)(n:h.get? a=none):H a=none:=by
 cases q:H a with
 | none=>rfl
 | some o=>
  obtain⟨u,hu⟩:=(ok a o q).there
  rw[n]at hu
  cases hu
theorem Inv.laid2 {X:Cx}{pins:List (Addr×Obj)}{σ:St}{H:Hp}{s s':Shared}{a:Addr}{o:HO}(I:Inv X pins σ H s)(os:s'.os=s.os)(hg:s'.gens=s.gens)(k:∀b u,s.heap.get? b=some u→s'.heap.get? b=some u)(nw:s.heap.get? a=none)
  (new:ObjOk X.prog X.w (upd H a o) s'.heap a o):Inv X pins σ (upd H a o) s':=by
 have hn:=I.hok.none_of nw
 have ne:∀b u,s.heap.get? b=some u→b≠a:=fun b u q z=>by rw[z,nw]at q;cases q
 have neH:∀b u,H b=some u→b≠a:=fun b u q=>Zap q hn
 refine I.call' (ch:=[]) os ⟨fun b u q _ _ _=>k b u q,fun b u q _ _ _=>⟨u.slots,k b u q⟩,fun b u q n _=>by rw[Zau (ne b u q)];exact n,fun b u q _=>⟨u,k b u q⟩,fun b xs q=>by rw[Zau (neH b _ q)];exact q,fun b u v q=>by rw[Zau (neH b _ q)];exact q,fun b ps q=>⟨#[],by rw[Zau (neH b _ q),Array.append_empty];exact q⟩⟩
  (fun b u q=>?_) (by rw[hg];exact I.bare) (fun b hb=>by cases hb)
 by_cases hb:b=a
 ·subst hb
  rw[ZaH]at q
  cases q
  exact new
 ·rw[Zau hb]at q
  exact(I.hok b u q).stay (fun c w' _ q=>k c w' q) (fun c q=>by rw[Zau (neH c _ q)];exact q) fun c xs q=>by rw[Zau (neH c _ q)];exact q
section
variable {X:Cx}
def signs (l:List Nat):List (List Nat):=l.map fun c=>[c]
theorem ZcN {l:List Nat}{acc:Array Value}(h:ItemsOf (SignAt ⟨l.toArray⟩) acc (⟨l.toArray⟩:Str).cps.size):Vals ((signs l).map tx) acc.toList:=by
 obtain⟨h1,h2⟩:=h
 have hl:(⟨l.toArray⟩:Str).cps.size=l.length:=by show l.toArray.size=_;simp
 rw[hl]at h1
 have gen:∀(l:List Nat) (us:List Value),us.length=l.length→(∀(j:Nat) (v:Value),us[j]?=some v→∃(c:Nat) (u:Tok),l[j]?=some c∧v=Value.str ⟨#[c]⟩ u)→Vals ((signs l).map tx) us:=by
  intro l
  induction l with
  | nil=>
   intro us hl _
   have:us=[]:=List.eq_nil_of_length_eq_zero hl
   subst this
   exact .nil
  | cons c l ih=>
   intro us hl h
   cases us with
   | nil=>cases hl
   | cons u us=>
    obtain⟨c',t,e,rfl⟩:=h 0 u rfl
    cases e
    refine .cons ⟨t,rfl⟩ (ih us (by simpa using hl) fun j v e=>h (j+1) v e)
 refine gen l acc.toList (by rw[Array.length_toList,h1]) fun j v e=>?_
 rw[Array.getElem?_toList]at e
 obtain⟨c,u,e1,e2⟩:=h2 j v e
 exact⟨c,u,by simpa using e1,e2⟩
theorem Zei (hc:X.calm=true):Zcl X (.type "list") (fun xs H Q=>∃l,xs=[tx l]∧l.length≤1000∧NewL ((signs l).map tx) H Q):=by
 rintro pins s σ H xs us Q I r ⟨l,rfl,hz,q⟩
 obtain⟨u,rfl,t,rfl⟩:=r.one
 have hl:(⟨l.toArray⟩:Str).cps.size=l.length:=by show l.toArray.size=_;simp
 refine call_list_str (I.ok.hd hc) _ t (fun h' tk acc c k e it=>?_) (by rw[hl];exact Nat.le_of_lt (Zct hz))
 refine⟨.ref s.heap.objs.size,_,I.laid (t':=tk) k (Nat.le_refl _) ?_,rfl,q _ I.fresh⟩
 exact⟨by unfold signs;rw[List.length_map,List.length_map];exact Nat.le_of_lt (Zct hz),acc.toList,c,ZcN it,by rw[Array.toArray_toList];exact e⟩
theorem ZgV (hc:X.calm=true):Zcl X (.builtin "all") (fun xs H Q=>∃(a:Addr) (bs:List Bool),xs=[.ref a]∧H a=some (.lst (bs.map V.bl))∧Q (.bl (bs.all id)) H):=by
 rintro pins s σ H xs us Q I r ⟨a,bs,rfl,ha,q⟩
 obtain⟨u,rfl,ru⟩:=r.one
 cases ru
 obtain⟨_,its,n,r',hlen,e⟩:=I.lstM ha
 have hl:s.heap.IsList a its.toArray:=PySem.IsL.isList e
 have hne:a≠s.heap.objs.size:=Nat.ne_of_lt (Heap.lt_size e)
 refine call_all_walkS (wpAny_pyIter_list hl ?_)
 have hL:its.toArray.size=bs.length:=by rw[List.size_toArray,←r'.length,List.length_map]
 have W:=(Walks.list (prog:=X.prog) (w:=X.w) (A:=X.A.in1) (by simpa using I.ok.hd hc) s.heap.objs.size a hne its.toArray).toS
 refine⟨s.heap.objs.size,_,_,_,_,_,_,fun i=>bs.getD i true,rfl,W,⟨⟨_,Heap.get?_push_size _ rfl,rfl,rfl⟩,hl.push _⟩,?_,fun s' hm=>?_⟩
 ·intro i v s Q E hv hQ
  have e':its[i]?=some v:=by simpa using hv
  obtain⟨x,hx,rx⟩:=Zco r' e'
  rw[List.getElem?_map]at hx
  cases hb:bs[i]? with
  | none=>rw[hb]at hx;cases hx
  | some b=>
   rw[hb]at hx
   cases hx
   obtain rfl:v=Value.bool b:=rx
   have:bs.getD i true=b:=by rw[List.getD_eq_getElem?_getD,hb];rfl
   have hQ':Q (bs.getD i true) s:=hQ
   rw[this]at hQ'
   exact wpAny_truthy_bool hQ'
 ·have ea:(List.range its.toArray.size).all (fun i=>bs.getD i true)=bs.all id:=by
   rw[hL]
   rw[Bool.eq_iff_iff,List.all_eq_true,List.all_eq_true]
   constructor
   ·intro h b hb
    obtain⟨i,hi,rfl⟩:=List.getElem_of_mem hb
    have:=h i (List.mem_range.mpr hi)
    rw[List.getD_eq_getElem?_getD,List.getElem?_eq_getElem hi]at this
    exact this
   ·intro h i hi
    have hi:=List.mem_range.mp hi
    rw[List.getD_eq_getElem?_getD,List.getElem?_eq_getElem hi]
    exact h _ (List.getElem_mem hi)
  rw[ea]
  have I2:Inv X pins σ H s':=I.call' (ch:=[]) hm.os (Un.kept fun b o q=>hm.heap b o (fun z=>?_) (Heap.get?_push_of_some _ q)) (I.hok.kept fun b o q=>hm.heap b o (fun z=>?_) (Heap.get?_push_of_some _ q)) (by rw[show s'.gens=s.gens from hm.gens];exact I.bare) (fun b hb=>by cases hb)
  ·exact⟨.bl _,H,I2,rfl,q⟩
  ·have z:b=s.heap.objs.size:=by simpa using z
   rw[z]at q;exact absurd (Heap.lt_size q) (Nat.lt_irrefl _)
  ·have z:b=s.heap.objs.size:=by simpa using z
   rw[z]at q;exact absurd (Heap.lt_size q) (Nat.lt_irrefl _)
def tset (P:Program)(w:World)(a:Addr)(ls:List (List Nat)):HO:=.ext fun h=>TxSet P w h a ls (!ZaF w)
theorem ZfW {P:Program}{w:World}{H:Hp}{h:Heap}{a:Addr}{ls:List (List Nat)}(x:TxSet P w h a ls (!ZaF w)):ObjOk P w H h a (tset P w a ls):=by
 obtain⟨o,es,ep,t,ms,h1,r⟩:=id x
 exact⟨x,⟨o,h1⟩,fun g1 g2 y k=>y.keep k⟩
def ddl (ls:List (List Nat)):List (List Nat):=ls.foldl addT []
theorem ZcU {ls:List (List Nat)}:dd (fun i=>ls.getD i []) ls.length=ddl ls:=by
 unfold dd ddl
 congr 1
 apply List.ext_getElem
 ·simp
 ·intro n h1 h2
  simp[h2]
theorem Zbc (hc:X.calm=true):Zcl X (.type "set") (fun xs H Q=>∃ls:List (List Nat),ls.length≤1000∧((∃l,xs=[tx l]∧ls=signs l)∨∃a,xs=[.ref a]∧SqL X.K H a (ls.map tx))∧∀p,H p=none→Q (.ref p) (upd H p (tset X.prog X.w p (ddl ls)))):=by
 rintro pins s σ H xs us Q I r ⟨ls,hz,hx,q⟩
 have hb:ls.length+1<scanBound:=by show _<4096;omega
 have fin:∀(h':Heap) (tk:Nat),TxSet X.prog X.w h' s.heap.objs.size (ddl ls) (!ZaF X.w)→(∀b o,s.heap.get? b=some o→h'.get? b=some o)→EP X pins σ Q (.ref s.heap.objs.size) { s with heap:=h',toks:=tk }:=fun h' tk hS k=>
  ⟨.ref s.heap.objs.size,_,I.laid (t':=tk) k (Nat.le_refl _) (ZfW hS),rfl,q _ I.fresh⟩
 rcases hx with⟨l,rfl,rfl⟩|⟨a,rfl,hq⟩
 ·obtain⟨u,rfl,t,rfl⟩:=r.one
  have hl:(signs l).length=l.length:=by unfold signs;rw[List.length_map]
  have e0:dd (fun i=>[l.getD i 0]) l.length=ddl (signs l):=by
   unfold dd ddl signs
   congr 1
   apply List.ext_getElem
   ·simp
   ·intro n h1 h2
    have:n<l.length:=by simpa using h2
    simp[this]
  refine ZeW (I.ok.hd hc) (Zes (prog:=X.prog) (w:=X.w) (s:=s) (l:=l) (t:=t)) F.sub_str_set F.sub_str_frozenset (by decide) (by rw[←hl];exact hb) fun h' tk hS k _=>?_
  rw[e0]at hS
  exact fin h' tk hS k
 ·obtain⟨u,rfl,ru⟩:=r.one
  cases ru
  obtain⟨its,rv,p,_⟩:=I.list hq
  refine ZeW (I.ok.hd hc) (Zet (prog:=X.prog) (w:=X.w) (s:=s) p.isList rv) F.sub_list_set F.sub_list_frozenset (by decide) hb fun h' tk hS k _=>?_
  rw[ZcU]at hS
  exact fin h' tk hS k
theorem Za0 (hc:X.calm=true):Zcl X (.builtin "sorted") (fun xs H Q=>∃a ls,xs=[.ref a]∧H a=some (tset X.prog X.w a ls)∧ls.length<64∧NewL ((ZaQ ls).map tx) H Q):=by
 rintro pins s σ H xs us Q I r ⟨a,ls,rfl,ha,h64,q⟩
 obtain⟨u,rfl,ru⟩:=r.one
 cases ru
 have hS:TxSet X.prog X.w s.heap a ls (!ZaF X.w):=(I.hok a _ ha).1
 refine Zfp (I.ok.hd hc) hS h64 fun s' b us e nw k hg ho hb rv=>?_
 have hl:(ZaQ ls).length≤sizeLine:=by rw[(ZaE ls).length_eq];exact Nat.le_trans (Nat.le_of_lt h64) (by rw[sizeLine_eq];decide)
 exact⟨.ref b,_,I.laid2 (o:=.lst ((ZaQ ls).map tx)) ho hg k nw ⟨by rw[List.length_map];exact hl,us,e,rv,hb⟩,rfl,q b (I.hok.none_of nw)⟩
end
end L2
namespace L2
open PySem PySem.Spec PyProof.Rows
def rXor (P:Program)(w:World):R2:=fun x y H Q=>∃a b la lb,x=.ref a∧y=.ref b∧H a=some (tset P w a la)∧H b=some (tset P w b lb)∧la.Nodup∧lb.Nodup∧a≠b∧la.length+lb.length≤4000∧∀p,H p=none→Q (.ref p) (upd H p (tset P w p (xorT la lb)))
theorem Zis {X:Cx}{P:Program}{w:World}(hP:X.prog=P)(hw:X.w=w):OpR X (binaryOp .BitXor) (rXor P w):=by
 subst hP hw
 intro pins s σ H x y v u Q I rx ry h
 obtain⟨a,b,la,lb,rfl,rfl,ha,hb,na,nb,ne,hz,q⟩:=h
 cases rx;cases ry
 have hA:TxSet X.prog X.w s.heap a la (!ZaF X.w):=(I.hok a _ ha).1
 have hB:TxSet X.prog X.w s.heap b lb (!ZaF X.w):=(I.hok b _ hb).1
 exact Zid hA hB na nb ne (by show _<4096;omega) fun h' k hS=>⟨.ref s.heap.objs.size,_,I.laid (t':=s.toks) k (Nat.le_refl _) (ZfW hS),rfl,q _ I.fresh⟩
end L2
namespace L2
open PySem PySem.Spec PyProof.Rows
open PySem.W (Frag)
theorem ZaW {X:Cx}{x:Str}{l:List Nat}{j:Nat}{pos:Pos}(h:x=⟨l.toArray⟩):PE X (.Constant (.str x) j pos) (tC (tx l)):=by subst h;exact ZjG
theorem Zhh {X:Cx} {x y:Str} {pos:Pos} (hg:Gl X x) (hm:∃t,X.mg x=some (.str y t)) (hd:(x == ("__debug__":Str))=false:=by decide):PE X (.Name x pos) (tC (.str y)):=by
 obtain⟨t,h⟩:=hm
 exact ZeE hg h ⟨t,rfl⟩ hd
theorem Ze6 {X:Cx} {x:Str} {y:Int} {pos:Pos} (hg:Gl X x) (hm:∃t,X.mg x=some (.int y t)) (hd:(x == ("__debug__":Str))=false:=by decide):PE X (.Name x pos) (tC (.int y)):=by
 obtain⟨t,h⟩:=hm
 exact ZeE hg h ⟨t,rfl⟩ hd
section
variable {CX:CXT}{P:Program}{w:World}{K:PySem.W.Frag}{mg:Str→Option Value}{base:Heap}{N:List Str}{qual:Str}{scope:Scope}{f:Addr}{cd:Value}{A:Around}{outer:List Env}{s:Shared}{H:Hp}{E:XK}{X:Cx}{e:Addr}
theorem cxPr:(cxOf CX P w K mg base N qual scope f cd A outer s H E).prog=P:=rfl
theorem cxWo:(cxOf CX P w K mg base N qual scope f cd A outer s H E).w=w:=rfl
theorem suxK:(sux X e).K=X.K:=rfl
theorem Zkx:(sux X e).prog=X.prog:=rfl
theorem Zkw:(sux X e).w=X.w:=rfl
end
end L2
namespace L2
open PySem PySem.Spec PyProof.Rows
open PySem.W (Frag KeqHits)
section
variable {X:Cx}{K:Frag}
end
end L2
namespace L2
open PySem PySem.Spec PyProof.Rows
open PySem.W (Frag)
end L2
namespace L2
open PySem PySem.Spec PyProof.Rows
section
variable {prog:Program}{w:World}{A:Around}{E:Value→Shared→Prop}{s:Shared}
variable {z TI TO i1 i2:Addr}{f1 f2:List Addr}{n i:Nat}{P1 P2:Nat→Value→Prop}{S1 S2:Nat→Heap→Prop}{a b:Value}
end
section
variable {prog:Program}{w:World}{A:Around}{E:Value→Shared→Prop}{s:Shared}{z TI TO i1 i2:Addr}{f1 f2:List Addr}{n i:Nat}{P1 P2:Nat→Value→Prop}{S1 S2:Nat→Heap→Prop}{a b:Value}
end
def Itz (K:PySem.W.Frag)(a b:Addr):It:=
  ⟨fun i H=>∃xs ys x y,SqT K H a xs∧SqT K H b ys∧xs.length=ys.length∧xs[i]?=some x∧ys[i]?=some y,
   fun i H v H'=>∃p x y,H p=none∧v=.ref p∧H'=upd H p (.tup [x,y])∧(∀xs,SqT K H a xs→xs[i]?=some x)∧∀ys,SqT K H b ys→ys[i]?=some y,
   fun i H=>∃xs ys,SqT K H a xs∧SqT K H b ys∧xs.length=ys.length∧xs.length=i⟩
section
variable {X:Cx}{es:List Expr}{x1:Nat}{tp:Pos}
def iZip (K:PySem.W.Frag)(ta:TA):TI:=fun σ H R=>ta σ H fun vs H1=>∃a b,vs=[.ref a,.ref b]∧(∃xs,SqT K H1 a xs)∧(∃ys,SqT K H1 b ys)∧R (Itz K a b) H1
end
section
variable {prog:Program}{w:World}{A:Around}{E:Value→Shared→Prop}{s:Shared}{l I S:Addr}{ls:List (List Nat)}{vs:List Value}{R:Result→Shared→Prop}{Q:Value→Shared→Prop}
end
section
variable {X:Cx}{e:Expr}{ta:TA}{p p2 pos kpos:Pos}
def repT (l:List Nat)(n:Int):List Nat:=(List.replicate n.toNat l).flatten
theorem Zed (a:Array Nat):∀(n:Nat) (acc:Array Nat),((List.replicate n a).foldl (·++·) acc).toList=acc.toList++(List.replicate n a.toList).flatten
 | 0,acc=>by simp
 | n+1,acc=>by
  rw[List.replicate_succ,List.foldl_cons,Zed a n,List.replicate_succ]
  simp
theorem ZjZ (l:List Nat)(n:Int):Txt.mul ⟨l.toArray⟩ n=⟨(repT l n).toArray⟩:=by
 unfold Txt.mul repT
 by_cases h1:n<1
 ·rw[if_pos h1]
  have:n.toNat=0:=by omega
  rw[this];rfl
 ·rw[if_neg h1]
  split
  ·rename_i h
   rw[Bool.or_eq_true]at h
   rcases h with h | h
   ·have:n=1:=by simpa using h
    subst this
    simp
   ·have:l=[]:=by
     have:=beq_iff_eq.mp h
     rw[Zcp]at this
     exact List.length_eq_zero_iff.mp this
    subst this
    simp
  ·congr 1
   apply Array.ext'
   rw[Zed]
   simp
theorem Zbj:OpR X (binaryOp .Mult) (fun x y H Q=>∃l n,x=tx l∧y=.int n∧0≤n∧n≤1000∧l.length≤1000∧Q (tx (repT l n)) H):=by
 rintro pins s σ H x y v u Q I rx ry ⟨l,n,rfl,rfl,h0,h1,h2,q⟩
 obtain⟨t,rfl⟩:=rx
 obtain⟨t',rfl⟩:=ry
 have e1:(⟨l.toArray⟩:Str).length=l.length:=Zcp l
 refine SB.mul ⟨?_,fun a b=>?_,fun a b=>?_⟩ fun t2 k=>?_
 ·simp only[Bool.or_eq_false_iff,decide_eq_false_iff_not];omega
 ·rw[e1]
  have e3:(1000:Int)≤(2 ^ 63-1)/n:=by
   rw[Int.le_ediv_iff_mul_le (by omega)]
   omega
  omega
 ·rw[e1]
  have:l.length*n.toNat≤1000*1000:=Nat.mul_le_mul h2 (by omega)
  unfold Builtin.Str.tooLong
  simp only[decide_eq_false_iff_not]
  rw[sizeLine_eq]
  omega
 ·rw[ZjZ];exact⟨tx _,H,I.tok _,⟨_,rfl⟩,q⟩
end
theorem Zgb (l:List Nat):(Builtin.Str.strSliceIndices none none (-1) l.length).filterMap (l.toArray[·]?)=l.reverse:=by
  have e:Builtin.Str.strSliceIndices none none (-1) l.length=(List.range l.length).map fun k=>l.length-1-k:=by
    unfold Builtin.Str.strSliceIndices sliceRange
    dsimp only
    have c : (if (-1 : Int)>0 then (if (if (-1 : Int)>0 then 0 else ((l.length : Nat) : Int)-1)<(if (-1 : Int)>0 then ((l.length : Nat) : Int) else -1) then ((if (-1 : Int)>0 then ((l.length : Nat) : Int) else -1)-(if (-1 : Int)>0 then 0 else ((l.length : Nat) : Int)-1) + -1-1) / -1 else 0)
                     else (if (if (-1:Int)>0 then 0 else ((l.length:Nat):Int)-1)>(if (-1:Int)>0 then ((l.length:Nat):Int) else -1) then ((if (-1:Int)>0 then 0 else ((l.length:Nat):Int)-1)-(if (-1:Int)>0 then ((l.length:Nat):Int) else -1) - -1-1)/(- -1) else 0)).toNat=l.length:=by
      simp
      split<;>omega
    rw[c]
    apply List.map_congr_left
    intro k hk
    have:=List.mem_range.mp hk
    simp
    omega
  rw[e]
  apply List.ext_getElem?
  intro i
  rw[List.filterMap_map]
  have key:∀n,n≤l.length→((List.range n).filterMap ((fun i=>l.toArray[i]?) ∘ fun k=>l.length-1-k))=(l.reverse).take n:=by
    intro n
    induction n with
    | zero=>intro _;simp
    | succ n ih=>
      intro hn
      rw[List.range_succ,List.filterMap_append,ih (by omega),List.take_add_one]
      have:l.reverse[n]?=l[l.length-1-n]?:=by rw[List.getElem?_reverse (by omega)]
      rw[this]
      have hl:l.length-1-n<l.length:=by omega
      simp[List.getElem?_eq_getElem hl]
  rw[key l.length (Nat.le_refl _),←List.length_reverse,List.take_length]
section
variable {X:Cx}{e st:Expr}{te ts:TE}{p2 pos:Pos}
def tRev (te ts:TE):TE:=fun σ H Q=>te σ H fun x H1=>ts σ H1 fun k H2=>∃l,x=tx l∧k=.int (-1)∧l.length≤sizeLine∧Q (tx l.reverse) H2
theorem ZjH (he:PE X e te)(hs:PE X st ts):PE X (.Subscript e (.Slice none none (some st) p2) pos) (tRev te ts):=by
 intro pins s σ H Q I h
 refine Subscript_ (thn (he pins s σ H _ I h) fun v s1 ⟨x,H1,I1,r1,q1⟩=>?_)
 refine wpAny_Slice ?_
 rw[evalPart_none]
 refine wpAny_pure (wpAny_pure ?_)
 rw[evalPart_some]
 refine thn (hs pins s1 σ H1 _ I1 q1) fun u s3 ⟨k,H3,I3,r3,q3⟩=>?_
 obtain⟨l,rfl,rfl,hz,q⟩:=q3
 obtain⟨t,rfl⟩:=r1
 obtain⟨t3,rfl⟩:=r3
 have I4:Inv X pins σ H3 { s3 with heap:=s3.heap.push { cls:=.type "slice",data:=.fields #[.none,.none,.int (-1) t3] } }:=I3.kept (t':=s3.toks) fun b ob q=>Heap.get?_push_of_some _ q
 show wpAny (model X.prog X.w) X.A (subscriptTail e (.Slice none none (some st) p2) (.str ⟨l.toArray⟩ t) (.ref s3.heap.objs.size)) (EP X pins σ Q) X.xe { s3 with heap:=s3.heap.push { cls:=.type "slice",data:=.fields #[.none,.none,.int (-1) t3] } }
 refine tail_any (ops:=[.ref s3.heap.objs.size,.str ⟨l.toArray⟩ t]) (typeIs_str _ _ _) F.slot_str_getitem.lookup ?_ (by with_unfolding_all rfl)
 refine wpAny_getItem_str_slice (l:=none) (u:=none) (st:=some (-1,t3)) ⟨_,Heap.get?_push_size _ rfl,rfl,rfl⟩ rfl ?_
 have e1:sliceMade (⟨l.toArray⟩:Str) t none none (some (-1,t3))=.str ⟨l.reverse.toArray⟩:=by
  unfold sliceMade slicePicked
  rw[if_neg (by simp)]
  show Made.str ⟨((Builtin.Str.strSliceIndices none none (-1) (⟨l.toArray⟩:Str).length).filterMap (l.toArray[·]?)).toArray⟩=_
  rw[Zcp,Zgb]
 rw[e1]
 exact⟨by rw[Zcp,List.length_reverse];exact hz,tx l.reverse,H3,I4.tok _,⟨_,rfl⟩,q⟩
theorem Zch (hc:X.calm=true):Zcl X (.builtin "sorted") (fun xs H Q=>∃l,xs=[tx l]∧l.length<64∧NewL ((ZaQ (signs l)).map tx) H Q):=by
 rintro pins s σ H xs us Q I r ⟨l,rfl,h64,q⟩
 obtain⟨u,rfl,t,rfl⟩:=r.one
 have sl:(signs l).length=l.length:=by unfold signs;rw[List.length_map]
 have hl:(ZaQ (signs l)).length≤sizeLine:=by rw[(ZaE _).length_eq,sl];exact Nat.le_trans (Nat.le_of_lt h64) (by rw[sizeLine_eq];decide)
 refine Calls.call_function_entry kind_sorted plain_sorted entry_sorted (args_sorted1 _) ?_
 unfold Builtin.«sorted»
 refine wpAny_bind (m:=checkCount "sorted" 1 1 _) (wpAny_pure ?_)
 refine wpAny_bind (wpAny_collect_str (by have:=I.ok.hd hc;simpa using this) ⟨l.toArray⟩ t (fun s' acc k g1 _ g3 it=>?_) (by show l.toArray.size≤_;rw[List.size_toArray];exact Nat.le_trans (Nat.le_of_lt h64) (by rw[sizeLine_eq];decide)))
 refine ZdP (s:=s') (ZcN it) (by rw[sl];exact h64) fun h' us e k2 he rr=>?_
 have nw:s.heap.get? s'.heap.objs.size=none:=by
  cases z:s.heap.get? s'.heap.objs.size with
  | none=>rfl
  | some o=>exact absurd (Heap.lt_size (k _ _ z)) (Nat.lt_irrefl _)
 exact⟨.ref s'.heap.objs.size,_,I.laid2 (s':={ s' with heap:=h' }) (o:=.lst ((ZaQ (signs l)).map tx)) g3 g1 (fun b o z=>k2 b o (k b o z)) nw ⟨by rw[List.length_map];exact hl,us,e,rr,he⟩,rfl,q _ (I.hok.none_of nw)⟩
theorem Zdh {val:Nat→List Nat}:∀k,argBest (fun i j=>decide (val i<val j)) k≤k∧∀j,j≤k→¬val j<val (argBest (fun i j=>decide (val i<val j)) k)
 | 0=>⟨Nat.le_refl _,fun j hj=>by
  have:j=0:=by omega
  subst this
  exact List.lt_irrefl _⟩
 | k+1=>by
  obtain⟨h1,h2⟩:=Zdh (val:=val) k
  unfold argBest
  by_cases c:val (k+1)<val (argBest (fun i j=>decide (val i<val j)) k)
  ·rw[if_pos (decide_eq_true c)]
   refine⟨Nat.le_refl _,fun j hj z=>?_⟩
   by_cases e:j=k+1
   ·subst e;exact List.lt_irrefl _ z
   ·exact h2 j (by omega) (List.lt_trans z c)
  ·rw[if_neg (by simpa using c)]
   refine⟨by omega,fun j hj=>?_⟩
   by_cases e:j=k+1
   ·subst e;exact c
   ·exact h2 j (by omega)
theorem ZgU (hc:X.calm=true):Zcl X (.builtin "min") (fun xs H Q=>∃a ls,xs=[.ref a]∧H a=some (.lst (ls.map tx))∧ls≠[]∧∀r,r∈ls→(∀x∈ls,¬x<r)→Q (tx r) H):=by
 rintro pins s σ H xs us Q I r ⟨a,ls,rfl,ha,hne,q⟩
 obtain⟨u,rfl,ru⟩:=r.one
 cases ru
 obtain⟨_,its,n,r2,hlen,eo⟩:=I.lstM ha
 have np:0<ls.length:=List.length_pos_iff.mpr hne
 have hh:=I.ok.hd hc
 have hl:s.heap.IsList a its.toArray:=PySem.IsL.isList eo
 have hlt:a<s.heap.objs.size:=Heap.lt_size eo
 have hsz:its.toArray.size=ls.length:=by rw[List.size_toArray,←r2.length,List.length_map]
 have hval:∀(i:Nat) (v:Value),its.toArray[i]?=some v→∃t,v=.str ⟨(ls.getD i []).toArray⟩ t:=fun i v e=>by
  have e':its[i]?=some v:=by simpa using e
  obtain⟨v',hv',rv⟩:=Zco r2 e'
  rw[List.getElem?_map]at hv'
  cases q:ls[i]? with
  | none=>rw[q]at hv';cases hv'
  | some m=>
   rw[q]at hv'
   cases hv'
   obtain⟨t,rfl⟩:=rv
   exact⟨t,by rw[List.getD_eq_getElem?_getD,q];rfl⟩
 refine call_min_walkS (wpAny_pyIter_list hl ?_)
 have W:=Walks.list (prog:=X.prog) (w:=X.w) (A:=X.A.in1) (by simpa using hh) s.heap.objs.size a (Nat.ne_of_lt hlt) its.toArray
 rw[hsz]at W
 refine⟨s.heap.objs.size,_,_,_,ls.length,_,_,fun i j=>decide (ls.getD i []<ls.getD j []),rfl,W.toS,⟨⟨_,Heap.get?_push_size _ rfl,rfl,rfl⟩,hl.push _⟩,fun b hb=>?_,np,?_,fun v s' hP hm=>?_⟩
 ·rw[Heap.size_push]
  rcases List.mem_cons.mp hb with z | z
  ·rw[z];exact Nat.lt_succ_self _
  ·rw[List.mem_singleton.mp z];exact Nat.lt_succ_of_lt hlt
 ·intro i j vi vj s5 Q5 E5 hi hj hq
  obtain⟨t1,rfl⟩:=hval i vi hi
  obtain⟨t2,rfl⟩:=hval j vj hj
  exact lt_str (by simpa using hq)
 ·obtain⟨t,rfl⟩:=hval _ v hP
  obtain⟨b1,b2⟩:=Zdh (val:=fun i=>ls.getD i []) (ls.length-1)
  have il:argBest (fun i j=>decide (ls.getD i []<ls.getD j [])) (ls.length-1)<ls.length:=by omega
  generalize argBest (fun i j=>decide (ls.getD i []<ls.getD j [])) (ls.length-1)=b at b2 il
  obtain⟨h',g',d',tk',os'⟩:=s'
  have eg:g'=s.gens:=hm.gens
  have ed:d'=s.drawn:=hm.drawn
  have eo':os'=s.os:=hm.os
  subst eg ed eo'
  have gb:ls.getD b []=ls[b]:=by rw[List.getD_eq_getElem?_getD,List.getElem?_eq_getElem il];rfl
  refine⟨tx (ls.getD b []),H,I.kept (t':=tk') (fun c o e=>hm.heap c o (fun z=>?_) (Heap.get?_push_of_some _ e)),⟨t,rfl⟩,q _ (by rw[gb];exact List.getElem_mem il) fun x hx=>?_⟩
  ·rw[List.mem_singleton.mp z]at e
   exact absurd (Heap.lt_size e) (Nat.lt_irrefl _)
  ·obtain⟨j,hj,rfl⟩:=List.getElem_of_mem hx
   have:=b2 j (by omega)
   rw[List.getD_eq_getElem?_getD,List.getElem?_eq_getElem hj]at this
   exact this
end
end L2
namespace L2
open PySem PySem.Spec PyProof.Rows
open PySem.W (Frag)
def sNo:TS:=fun _ _ _=>False
theorem ZjC {X:Cx}{st:Stmt}:PS X st sNo:=fun _ _ _ _ _ _ h=>h.elim
section
variable {X:Cx}{CX:CXT}{k:Nat}{L f:Addr}{fd:FuncData}{ps:List Str}{sp:Sp}{E:XK}{x:Str}{pos apos np:Pos}{e:Expr}{es:List Expr}{t:TA}{ds:List Value}{dvs:List V}
theorem Zhi {pl:Sem Bool} (hg:Gl X x) (hm:X.mg x=some (.ref L)) (cr:ClsRead X.K L "__init__" (.ref f)) (F:FnOk X.prog X.w X.K X.mg X.base CX k f fd ps sp) (hr:Room k X.A) (hk:PySem.W.keepIn X.K (.ref f)=true) (hb:Binds X.K fd ps ds) (hd:Vals dvs ds) (hx:Zb4 CX X E)
  (ha:PA X (e::es) t) (hdb:(x == ("__debug__":Str))=false:=by decide) (hst:starEach (e::es) X.env=(false,eval e X.env)::starEach es X.env:=by rfl) (hpl:(backTo pos (starEach es X.env)).any (·.1)=false:=by rfl)
  (ht:eval (.Call (.Attribute (.Name x np) "__init__" apos) (e::es) [] pos) X.env=(do
   let ov ←eval (.Name x np) X.env
   standAt apos.atName
   let (f,first) ←holding [ov] (getMethod ov "__init__" pl)
   callWith pos f first (backTo pos (starEach (e::es) X.env)) (backToKw pos (keywordEach [] X.env))):=by rfl):PE X (.Call (.Attribute (.Name x np) "__init__" apos) (e::es) [] pos) (Zg1 sp dvs E t):=by
 intro pins s σ H Q I h
 refine PySem.W.methodCall_KW (pl:=pl) (ZbN I hg hm ?_ hdb) ht
 refine PySem.W.method_cls I.kIn cr.sp (PySem.W.cls_value I.kIn cr.rd cr.fd cr.hn ?_)
 refine PySem.W.callWith_K (first:=[]) (h₀:=X.base) I.ok.mod.kin hk (thn (ha pos pins _ σ H _ (I.tok _) h) fun us s1 ⟨vs,H1,I1,r,q⟩=>⟨I1.kIn,?_⟩) hst hpl
 exact ZeY F hr hb hd hx I1 r q
end
def WhileRun (c:TT)(tb:TS)(D:Ends)(σ:St)(H:Hp):Prop:=ZfY c tb D σ H
theorem Zin {c:TT}{tb:TS}{D:Ends}{σ:St}{H:Hp}:ZfY c tb D σ H=WhileRun c tb D σ H:=rfl
theorem WhileRun.by {c:TT}{tb:TS}{D:Ends}{σ:St}{H:Hp}(Pv:St→Hp→Prop)(μ:St→Hp→Nat)(h0:Pv σ H)
  (hs:∀σ H,Pv σ H→∃b:Bool,(∀Q:Bool→Hp→Prop,(∀H1,Same H H1→Q b H1)→c σ H Q)∧∀H1,Same H H1→if b=true then tb { D with nx:=fun σ' H'=>Pv σ' H'∧μ σ' H'<μ σ H,ct:=fun σ' H'=>Pv σ' H'∧μ σ' H'<μ σ H,bk:=D.nx } σ H1 else D.nx σ H1):WhileRun c tb D σ H:=by
 refine⟨fun m σ H=>m=μ σ H∧Pv σ H,⟨_,rfl,h0⟩,?_⟩
 rintro m σ H ⟨rfl,p⟩
 obtain⟨b,hc,hb⟩:=hs σ H p
 refine hc _ fun H1 s1=>?_
 have q:=hb H1 s1
 cases b with
 | true=>exact⟨_,fun σ' H' ⟨p',l⟩=>⟨_,l,rfl,p'⟩,q⟩
 | false=>exact q
end L2
namespace L2
open PySem PySem.Spec PyProof.Rows
def cyc (l:List Nat)(i:Nat):Nat:=l.getD (i % l.length) 0
def laidOut (l:List Nat)(n:Nat):List Nat:=(repT l ((n:Int)/(l.length:Nat)+2)).take (l.length+n-1)
def wordsOf (l:List Nat)(n:Nat):List (List Nat):=ZaQ (ddl ((List.range (l.length+1-n)).map fun i=>(l.drop i).take n))
def Zbn (l:List Nat)(n:Nat):List (List Nat):=(List.range l.length).map fun i=>(List.range n).map fun j=>cyc l (i+j)
def Zab (l:List Nat)(n:Nat):List (List Nat):=ZaQ (ddl (Zbn l n))
def ZbO (l:List Nat)(s:Nat):Bool:=decide (repT (l.take s) ((l.length:Int)/(s:Nat))=l)
def Zae (l:List Nat):Nat:=((List.range l.length).find? fun s=>decide (1≤s)&&ZbO l s).getD l.length
def rootOf (l:List Nat):List Nat:=l.take (Zae l)
def Zcq (l:List Nat)(b:Int):List Nat:=l.drop (b % (l.length:Nat)).toNat++l.take (b % (l.length:Nat)).toNat
theorem Za8 (l:List Nat)(i:Nat):cyc l (i+l.length)=cyc l i:=by unfold cyc;rw[Nat.add_mod_right]
theorem ZdG (l:List Nat)(i:Nat):cyc l (i % l.length)=cyc l i:=by unfold cyc;rw[Nat.mod_mod]
theorem ZbL {l:List Nat}{i:Nat}(h:i<l.length):l[i]?=some (cyc l i):=by
 unfold cyc
 rw[Nat.mod_eq_of_lt h,List.getD_eq_getElem?_getD,List.getElem?_eq_getElem h]
 rfl
theorem ZcI (l:List Nat):l=(List.range l.length).map (cyc l):=by
 apply List.ext_getElem?
 intro i
 by_cases h:i<l.length
 ·rw[ZbL h,List.getElem?_map,List.getElem?_range h];rfl
 ·rw[List.getElem?_eq_none (by omega),List.getElem?_eq_none (by simp;omega)]
theorem Zcw (l:List Nat)(n:Nat):((List.replicate n l).flatten).length=n*l.length:=by simp
theorem Ze0 {l:List Nat}:∀ {n k:Nat},k<n*l.length→((List.replicate n l).flatten)[k]?=some (cyc l k)
 | 0,k,h=>by omega
 | n+1,k,h=>by
  rw[List.replicate_succ,List.flatten_cons]
  by_cases hk:k<l.length
  ·rw[List.getElem?_append_left hk];exact ZbL hk
  ·have hk':l.length≤k:=by omega
   rw[List.getElem?_append_right hk',Ze0 (by rw[Nat.succ_mul]at h;omega)]
   have e:=Za8 l (k-l.length)
   rw[Nat.sub_add_cancel hk']at e
   rw[e]
theorem ZgT {g:List Nat}{f:Nat→Nat}{i n:Nat}(hg:∀k,k<g.length→g[k]?=some (f k))(h:i+n≤g.length):(g.drop i).take n=(List.range n).map fun j=>f (i+j):=by
 apply List.ext_getElem?
 intro k
 by_cases hk:k<n
 ·rw[List.getElem?_take_of_lt hk,List.getElem?_drop,hg (i+k) (by omega),List.getElem?_map,List.getElem?_range hk];rfl
 ·rw[List.getElem?_eq_none (by simp;omega),List.getElem?_eq_none (by simp;omega)]
theorem ZgK {n s:Nat}(hs:1≤s):s+n≤(n/s+2)*s:=by
 have:=Nat.div_add_mod n s
 have:=Nat.mod_lt n hs
 rw[Nat.add_mul,Nat.mul_comm (n/s) s]
 omega
theorem Ze1 (l:List Nat)(n:Nat)(s:Nat):repT l ((n:Int)/(s:Nat)+2)=(List.replicate (n/s+2) l).flatten:=by
 unfold repT
 have:((n:Int)/(s:Nat)+2).toNat=n/s+2:=by
  have e:(n:Int)/(s:Nat)=((n/s:Nat):Int):=(Int.natCast_ediv n s).symm
  rw[e];exact Int.toNat_natCast (n/s+2)
 rw[this]
theorem ZcP {l:List Nat}{n:Nat}(h1:1≤l.length):l.length+n≤(repT l ((n:Int)/(l.length:Nat)+2)).length:=by
 rw[Ze1,Zcw];exact ZgK h1
theorem Zfd {l:List Nat}{n k:Nat}(h:k<(repT l ((n:Int)/(l.length:Nat)+2)).length):(repT l ((n:Int)/(l.length:Nat)+2))[k]?=some (cyc l k):=by
 rw[Ze1]at h ⊢
 rw[Zcw]at h
 exact Ze0 h
theorem Zcn {l:List Nat}{n:Nat}(h1:1≤l.length):(laidOut l n).length=l.length+n-1:=by
 unfold laidOut
 have:=ZcP (n:=n) h1
 rw[List.length_take]
 omega
theorem ZiD {l:List Nat}{n k:Nat}(h1:1≤l.length)(h:k<(laidOut l n).length):(laidOut l n)[k]?=some (cyc l k):=by
 have h':=h
 rw[Zcn h1]at h'
 unfold laidOut
 rw[List.getElem?_take_of_lt h']
 have:=ZcP (n:=n) h1
 exact Zfd (by omega)
theorem Zfm {l:List Nat}{n:Nat}(h1:1≤l.length):wordsOf (laidOut l n) n=Zab l n:=by
 unfold wordsOf Zab Zbn
 have e:(laidOut l n).length+1-n=l.length:=by rw[Zcn h1];omega
 rw[e]
 congr 2
 apply List.map_congr_left
 intro i hi
 have hi:=List.mem_range.mp hi
 exact ZgT (fun k hk=>ZiD h1 hk) (by rw[Zcn h1];omega)
theorem Zeq {l:List Nat}{n:Nat}(h1:1≤l.length):ZaQ (ddl ((List.range l.length).map fun i=>((repT l ((n:Int)/(l.length:Nat)+2)).drop i).take n))=Zab l n:=by
 unfold Zab Zbn
 congr 2
 apply List.map_congr_left
 intro i hi
 have hi:=List.mem_range.mp hi
 exact ZgT (fun k hk=>Zfd hk) (by have:=ZcP (n:=n) h1;omega)
theorem ZbK {x:List Nat}:∀(ls acc:List (List Nat)),x∈ls.foldl addT acc↔x∈acc∨x∈ls
 | [],acc=>by simp
 | y::ls,acc=>by
  rw[List.foldl_cons,ZbK ls]
  have h:x∈addT acc y↔x∈acc∨x=y:=by
   unfold addT
   split
   ·rename_i h
    constructor
    ·exact .inl
    ·rintro (q | q)
     ·exact q
     ·rw[q];exact h
   ·rw[List.mem_append,List.mem_singleton]
  rw[h,List.mem_cons,or_assoc]
theorem ZcF {x:List Nat}{ls:List (List Nat)}:x∈ddl ls↔x∈ls:=by
 unfold ddl
 rw[ZbK]
 simp
theorem ZbW (ls:List (List Nat)):(ddl ls).Nodup:=by rw[←ZcU];exact Zb3 _
theorem ZfN {A B:List (List Nat)}(h:∀x,x∈A↔x∈B):ZaQ (ddl A)=ZaQ (ddl B):=
 Zcs ((List.perm_ext_iff_of_nodup (ZbW A) (ZbW B)).mpr fun x=>by rw[ZcF,ZcF];exact h x)
theorem Zbv {l x:List Nat}{n:Nat}:x∈Zbn l n↔∃i,i<l.length∧x=(List.range n).map fun j=>cyc l (i+j):=by
 unfold Zbn
 rw[List.mem_map]
 constructor
 ·rintro⟨i,hi,rfl⟩;exact⟨i,List.mem_range.mp hi,rfl⟩
 ·rintro⟨i,hi,rfl⟩;exact⟨i,List.mem_range.mpr hi,rfl⟩
theorem Zce {l l':List Nat}{n k k':Nat}(h1:1≤l.length)(h1':1≤l'.length)(h:∀i,cyc l' i=cyc l (i+k))(h':∀i,cyc l i=cyc l' (i+k')):Zab l' n=Zab l n:=by
 refine ZfN fun x=>?_
 rw[Zbv,Zbv]
 have go:∀ {a b:List Nat} {d:Nat},1≤b.length→(∀i,cyc a i=cyc b (i+d))→∀i,∃i',i'<b.length∧(List.range n).map (fun j=>cyc a (i+j))=(List.range n).map fun j=>cyc b (i'+j):=by
  intro a b d hb e i
  refine⟨(i+d) % b.length,Nat.mod_lt _ hb,List.map_congr_left fun j _=>?_⟩
  rw[e (i+j)]
  unfold cyc
  rw[Nat.mod_add_mod]
  congr 2
  omega
 constructor
 ·rintro⟨i,hi,rfl⟩
  obtain⟨i',h2,h3⟩:=go h1 h i
  exact⟨i',h2,h3⟩
 ·rintro⟨i,hi,rfl⟩
  obtain⟨i',h2,h3⟩:=go h1' h' i
  exact⟨i',h2,h3⟩
theorem ZiP {a b:List Nat}(hl:a.length=b.length)(h:∀i,cyc a i=cyc b i):a=b:=by
 rw[ZcI a,ZcI b,hl]
 exact List.map_congr_left fun i _=>h i
theorem Zgc {l:List Nat}{s:Nat}(hs:1≤s)(hn:s≤l.length):ZbO l s=true↔s∣l.length∧∀k,cyc l k=cyc (l.take s) k:=by
 have ht:(l.take s).length=s:=by rw[List.length_take];omega
 have hq:((l.length:Int)/(s:Nat)).toNat=l.length/s:=by
  have e:(l.length:Int)/(s:Nat)=((l.length/s:Nat):Int):=(Int.natCast_ediv _ _).symm
  rw[e];exact Int.toNat_natCast _
 unfold ZbO repT
 rw[decide_eq_true_iff,hq]
 constructor
 ·intro e
  have hl:=congrArg List.length e
  rw[Zcw,ht]at hl
  have hd:s∣l.length:=⟨l.length/s,by rw[Nat.mul_comm];exact hl.symm⟩
  refine⟨hd,fun k=>?_⟩
  have hm:k % l.length<l.length:=Nat.mod_lt _ (by omega)
  have a1:=Ze0 (l:=l.take s) (n:=l.length/s) (k:=k % l.length) (by rw[ht,hl];exact hm)
  rw[e,ZbL hm,ZdG]at a1
  have a2:cyc (l.take s) (k % l.length)=cyc (l.take s) k:=by
   unfold cyc
   rw[ht,Nat.mod_mod_of_dvd _ hd]
  rw[←a2]
  exact Option.some.inj a1
 ·rintro⟨⟨c,hc⟩,h⟩
  have hdiv:l.length/s=c:=by rw[hc];exact Nat.mul_div_cancel_left c hs
  have hlen:((List.replicate (l.length/s) (l.take s)).flatten).length=l.length:=by rw[Zcw,ht,hdiv,Nat.mul_comm];exact hc.symm
  apply List.ext_getElem?
  intro i
  by_cases hi:i<l.length
  ·rw[Ze0 (by rw[Zcw]at hlen;rw[hlen];exact hi),ZbL hi,h i]
  ·rw[List.getElem?_eq_none (by rw[hlen];omega),List.getElem?_eq_none (by omega)]
theorem Zdt {l:List Nat}{s:Nat}(hs:1≤s)(hn:s≤l.length):ZbO l s=true↔s∣l.length∧∀k,cyc l (k+s)=cyc l k:=by
 have ht:(l.take s).length=s:=by rw[List.length_take];omega
 rw[Zgc hs hn]
 constructor
 ·rintro⟨hd,h⟩
  refine⟨hd,fun k=>?_⟩
  have:=Za8 (l.take s) k
  rw[ht]at this
  rw[h,h,this]
 ·rintro⟨hd,h⟩
  refine⟨hd,fun k=>?_⟩
  have hmul:∀c k,cyc l (k+s*c)=cyc l k:=by
   intro c
   induction c with
   | zero=>intro k;rfl
   | succ c ih=>
    intro k
    rw[Nat.mul_succ,←Nat.add_assoc,h,ih]
  have e1:=hmul (k/s) (k % s)
  rw[Nat.mod_add_div]at e1
  have hk:k % s<s:=Nat.mod_lt _ hs
  have e2:cyc (l.take s) k=cyc l (k % s):=by
   have a1:=ZbL (l:=l.take s) (i:=k % s) (by rw[ht];exact hk)
   rw[List.getElem?_take_of_lt hk,ZbL (by omega)]at a1
   have a2:=ZdG (l.take s) k
   rw[ht]at a2
   rw[←a2]
   exact(Option.some.inj a1).symm
  rw[e1,e2]
theorem Zha {l:List Nat}(h1:1≤l.length):ZbO l l.length=true:=(Zdt h1 (Nat.le_refl _)).mpr ⟨Nat.dvd_refl _,Za8 l⟩
theorem ZaD {l:List Nat}(h1:1≤l.length):1≤Zae l∧Zae l≤l.length∧ZbO l (Zae l)=true∧∀s,1≤s→s<Zae l→ZbO l s=false:=by
 unfold Zae
 cases e:(List.range l.length).find? fun s=>decide (1≤s)&&ZbO l s with
 | none=>
  refine⟨h1,Nat.le_refl _,Zha h1,fun s a b=>?_⟩
  have:=List.find?_eq_none.mp e s (List.mem_range.mpr b)
  simpa [a] using this
 | some r=>
  have hr:=List.find?_some e
  have hm:=List.mem_range.mp (List.mem_of_find?_eq_some e)
  rw[Bool.and_eq_true,decide_eq_true_iff]at hr
  refine⟨hr.1,Nat.le_of_lt hm,hr.2,fun s a b=>?_⟩
  have b':s<r:=b
  have hlt:=List.find?_range_eq_some.mp e
  have:=hlt.2.2 s b'
  simpa [a] using this
theorem ZdS {l:List Nat}{r:Nat}(h1:1≤l.length)(hr:1≤r)(hn:ZbO l r=true)(hle:r≤l.length)(hm:∀s,1≤s→s<r→ZbO l s=false):Zae l=r:=by
 obtain⟨a,b,c,d⟩:=ZaD h1
 rcases Nat.lt_trichotomy (Zae l) r with h | h | h
 ·rw[hm _ a h]at c;cases c
 ·exact h
 ·rw[d r hr h]at hn;cases hn
theorem ZaU {l:List Nat}(h1:1≤l.length):(rootOf l).length=Zae l:=by
 unfold rootOf
 rw[List.length_take]
 have:=(ZaD h1).2.1
 omega
theorem Zcm {l:List Nat}(h1:1≤l.length)(k:Nat):cyc l k=cyc (rootOf l) k:=by
 obtain⟨a,b,c,_⟩:=ZaD h1
 exact((Zgc a b).mp c).2 k
theorem ZbH {l:List Nat}{n:Nat}(h1:1≤l.length):Zab (rootOf l) n=Zab l n:=
 Zce (k:=0) (k':=0) h1 (by rw[ZaU h1];exact(ZaD h1).1) (fun i=>(Zcm h1 i).symm) (fun i=>Zcm h1 i)
theorem ZfU {l:List Nat}{b:Int}(h1:1≤l.length):(b % (l.length:Nat)).toNat<l.length∧(((b % (l.length:Nat)).toNat:Nat):Int)=b % (l.length:Nat):=by
 have a:=Int.emod_nonneg b (show ((l.length:Nat):Int)≠0 by omega)
 have c:=Int.emod_lt_of_pos b (show (0:Int)<(l.length:Nat) by omega)
 omega
theorem Zdj {l:List Nat}{b:Int}(h1:1≤l.length):(Zcq l b).length=l.length:=by
 have:=(ZfU (b:=b) h1).1
 unfold Zcq
 rw[List.length_append,List.length_drop,List.length_take]
 omega
theorem Zdk {l:List Nat}{b:Int}(h1:1≤l.length)(i:Nat):cyc (Zcq l b) i=cyc l (i+(b % (l.length:Nat)).toNat):=by
 have hk:=(ZfU (b:=b) h1).1
 have hl:=Zdj (b:=b) h1
 have hm:i % l.length<l.length:=Nat.mod_lt _ (by omega)
 have a1:=ZbL (l:=Zcq l b) (i:=i % l.length) (by rw[hl];exact hm)
 have a2:=ZdG (Zcq l b) i
 rw[hl]at a2
 rw[a2]at a1
 have a3:cyc l (i+(b % (l.length:Nat)).toNat)=cyc l (i % l.length+(b % (l.length:Nat)).toNat):=by
  unfold cyc
  rw[Nat.mod_add_mod]
 have key:∀k,k<l.length→∀r,r<l.length→(l.drop k++l.take k)[r]?=some (cyc l (r+k)):=by
  intro k hk r hr
  by_cases h:r<l.length-k
  ·rw[List.getElem?_append_left (by rw[List.length_drop];exact h),List.getElem?_drop,ZbL (by omega),Nat.add_comm]
  ·rw[List.getElem?_append_right (by rw[List.length_drop];omega),List.length_drop,List.getElem?_take_of_lt (by omega),ZbL (by omega)]
   have e:=Za8 l (r-(l.length-k))
   have e2:r-(l.length-k)+l.length=r+k:=by omega
   rw[e2]at e
   rw[e]
 have a4:(Zcq l b)[i % l.length]?=some (cyc l (i % l.length+(b % (l.length:Nat)).toNat)):=key _ hk _ hm
 rw[a3]
 exact Option.some.inj (a1.symm.trans a4)
theorem ZfV {l:List Nat}{b:Int}(h1:1≤l.length)(i:Nat):cyc l i=cyc (Zcq l b) (i+(l.length-(b % (l.length:Nat)).toNat)):=by
 have hk:=(ZfU (b:=b) h1).1
 rw[Zdk h1]
 have e:i+(l.length-(b % (l.length:Nat)).toNat)+(b % (l.length:Nat)).toNat=i+l.length:=by omega
 rw[e,Za8]
theorem ZcW {l:List Nat}{n:Nat}{b:Int}(h1:1≤l.length):Zab (Zcq l b) n=Zab l n:=
 Zce h1 (by rw[Zdj h1];exact h1) (Zdk h1) (ZfV h1)
theorem ZiA {l:List Nat}(h1:1≤l.length)(i:Nat):cyc l i∈l:=by
 have hm:i % l.length<l.length:=Nat.mod_lt _ h1
 have:=ZbL hm
 rw[ZdG]at this
 exact List.mem_of_getElem? this
theorem ZeZ {l:List Nat}{y:Nat}(hy:y∈rootOf l):y∈l:=List.mem_of_mem_take hy
end L2
namespace L2
open PySem PySem.Spec PyProof.Rows
open PySem.W (Frag)
def AtW (l w:List Nat)(i:Nat):Prop:=i+w.length≤l.length∧(l.drop i).take w.length=w
def Inf (w l:List Nat):Prop:=∃i,AtW l w i
theorem AtW.nil (l:List Nat):AtW l [] 0:=⟨by simp,by simp⟩
theorem Inf.nil (l:List Nat):Inf [] l:=⟨0,AtW.nil l⟩
theorem Inf.refl (l:List Nat):Inf l l:=⟨0,by simp,by simp⟩
theorem AtW.trans {u v w:List Nat}{i j:Nat}(h1:AtW v u i)(h2:AtW w v j):AtW w u (j+i):=by
 obtain⟨a1,b1⟩:=h1
 obtain⟨a2,b2⟩:=h2
 refine⟨by omega,?_⟩
 have e:(w.drop (j+i)).take u.length=((((w.drop j).take v.length).drop i).take u.length):=by
  rw[List.drop_take,List.drop_drop,List.take_take]
  congr 1
  omega
 rw[e,b2,b1]
theorem Inf.trans {u v w:List Nat}(h1:Inf u v)(h2:Inf v w):Inf u w:=by
 obtain⟨i,h1⟩:=h1
 obtain⟨j,h2⟩:=h2
 exact⟨_,h1.trans h2⟩
theorem Zhv (w:List Nat):Inf w.tail w:=by
 cases w with
 | nil=>exact Inf.nil _
 | cons c w=>exact⟨1,by simp;omega,by simp⟩
theorem Zhw (w:List Nat):Inf w.dropLast w:=⟨0,by simp,by rw[List.drop_zero,List.length_dropLast,List.dropLast_eq_take]⟩
def Zb0 (sh st:List (List Nat))(h:List Nat)(c:Nat):Bool:=decide ((h++[c]).tail∈sh)&&!decide (h++[c]∈st)
def ZeH (sh st:List (List Nat))(m h:List Nat):List (List Nat):=(m.filter (Zb0 sh st h)).map fun c=>h++[c]
def Zdw (sh st:List (List Nat))(m:List Nat):List (List Nat):=sh.flatMap (ZeH sh st m)
def Zj2 (l m:List Nat)(i:Nat):List (List Nat):=(List.range i).flatMap fun k=>Zdw (wordsOf l k) (wordsOf l (k+1)) m
def Zj3 (l m:List Nat):List (List Nat):=Zj2 l m (l.length+1)
theorem Zd7 (sh st:List (List Nat))(m h:List Nat):(ZeH sh st m h).length≤m.length:=by unfold ZeH;rw[List.length_map];exact List.length_filter_le _ _
theorem Zbq {α β:Type}{f:α→List β}{b:Nat}(h:∀x,(f x).length≤b):∀l:List α,(l.flatMap f).length≤l.length*b
 | []=>by simp
 | x::l=>by
  rw[List.flatMap_cons,List.length_append,List.length_cons,Nat.succ_mul]
  have:=h x
  have:=Zbq h l
  omega
theorem Zgu (sh st:List (List Nat))(m:List Nat):(Zdw sh st m).length≤sh.length*m.length:=Zbq (Zd7 sh st m) sh
theorem Zd4 {sh st:List (List Nat)}{m w:List Nat}:w∈Zdw sh st m↔∃h c,h∈sh∧c∈m∧w=h++[c]∧w.tail∈sh∧w∉st:=by
 unfold Zdw ZeH Zb0
 simp only[List.mem_flatMap,List.mem_map,List.mem_filter,Bool.and_eq_true,Bool.not_eq_true',decide_eq_true_iff,decide_eq_false_iff_not]
 constructor
 ·rintro⟨h,hh,c,⟨hc,h1,h2⟩,rfl⟩;exact⟨h,c,hh,hc,rfl,h1,h2⟩
 ·rintro⟨h,c,hh,hc,rfl,h1,h2⟩;exact⟨h,hh,c,⟨hc,h1,h2⟩,rfl⟩
theorem same_upd3' {H H2:Hp}{e:Addr}{o':HO}(h:H e=none)(s:Same H H2):Same H (upd H2 e o'):=fun b u hb=>by
 have:b≠e:=fun z=>by rw[z,h]at hb;cases hb
 rw[Zau this];exact s _ _ hb
section
variable {tt:TT}{te:TE}{Q:VK}{τ0:St}{H:Hp}{K:Frag}{a:Addr}{xs:List V}
theorem CompRun.listL (b:Nat→Bool)(f:Nat→V)(hz:xs.length≤100000)(hx:SqL K H a xs)
  (ht:∀i H' Q' (h:i<xs.length),Same H H'→(∀H'',Same H' H''→Q' (b i) H'')→tt (τ0.set 0 (some (xs.getD i .non))) H' Q')
  (he:∀i H' Q' (h:i<xs.length),b i=true→Same H H'→(∀H'',Same H' H''→Q' (f i) H'')→te (τ0.set 0 (some (xs.getD i .non))) H' Q')
  (hQ:∀p H',Same H H'→H p=none→H' p=some (.lst (((List.range xs.length).filter b).map f))→Q (.ref p) H'):CompRun (Itl K a) τ0 (ZcQ 0) tt te H Q:=by
 intro acc ha
 refine⟨fun i m τ H2=>i≤xs.length∧m=xs.length-i∧(∀w:Option V,τ.set 0 w=τ0.set 0 w)∧Same H H2∧H2 acc=some (.lst (((List.range i).filter b).map f)),⟨xs.length,Nat.zero_le _,rfl,fun _=>rfl,ZaP ha,ZaH⟩,?_⟩
 rintro i m τ H2 ⟨hi,rfl,hτ,hs,hacc⟩
 by_cases hlt:i<xs.length
 ·refine .inr ⟨⟨xs,xs[i],hs.seq hx,by simp[hlt]⟩,fun τ' H'=>(∀w:Option V,τ'.set 0 w=τ0.set 0 w)∧Same H H'∧H' acc=some (.lst (((List.range (i+1)).filter b).map f)),fun τ' H' q=>⟨xs.length-(i+1),by omega,hlt,rfl,q⟩,fun x H3 y=>?_⟩
  obtain⟨rfl,y⟩:=y
  have ex:x=xs.getD i .non:=by rw[List.getD_eq_getElem?_getD,y xs (hs.seq hx)];rfl
  subst ex
  show tt (τ.set 0 (some (xs.getD i .non))) _ _
  rw[hτ]
  have hτ':∀w:Option V,(τ0.set 0 (some (xs.getD i .non))).set 0 w=τ0.set 0 w:=fun w=>by rw[List.set_set]
  refine ht i _ _ hlt hs fun H4 s4=>?_
  cases hb:b i with
  | false=>
   rw[if_neg Bool.false_ne_true]
   refine⟨hτ',hs.trans s4,?_⟩
   rw[s4 _ _ hacc,List.range_succ,List.filter_append]
   simp[hb]
  | true=>
   rw[if_pos rfl]
   refine he i _ _ hlt hb (hs.trans s4) fun H5 s5=>⟨_,s5 _ _ (s4 _ _ hacc),?_,hτ',same_upd3' ha ((hs.trans s4).trans s5),?_⟩
   ·rw[List.length_map]
    have:=List.length_filter_le b (List.range i)
    rw[List.length_range]at this
    rw[sizeLine_eq];omega
   ·rw[ZaH,List.range_succ,List.filter_append]
    simp[hb]
 ·have e:i=xs.length:=by omega
  subst e
  exact .inl ⟨⟨xs,hs.seq hx,Nat.le_refl _⟩,hQ acc H2 hs ha hacc⟩
end
end L2
namespace L2
open PySem PySem.Spec PyProof.Rows
section
variable {X:Cx}{k:Nat}{f C:Addr}{fd:FuncData}{ps:List Str}{sp:Sp}{dvs:List V}{ds:List Value}{x m:Str}{p pos apos:Pos}{e o:Expr}{es:List Expr}{ta:TE}{t:TA}
def Zjf (C:Addr)(m:Str)(sp:Sp)(dvs:List V)(ta:TE)(t:TA):TX:=fun σ H Q E=>ta σ H fun x H1=>∃a dx fs,x=.ref a∧H1 a=some (.ins C dx fs)∧fs.lookup m=none∧t σ H1 fun vs H2=>sp (x::(vs++dvs)) H2 Q E
def Zjg (C:Addr)(sp:Sp)(dvs:List V)(t:TA):TX:=fun σ H Q E=>t σ H fun vs H1=>∀x dx,H1 x=none→H1 dx=none→dx≠x→sp (.ref x::(vs++dvs)) (upd (upd H1 dx (.own x)) x (.ins C dx [])) (fun v H2=>v=.non∧Q (.ref x) H2) E
end
def EN:XK:=fun _ _ _=>False
theorem Zir {X:Cx}:Zb4 (CXr X.prog X.w) X EN:=fun _ _ _ _ _ _ _ ⟨_,_,_,_,_,_,_,_,_,_,_,_,_,_,_,z⟩=>z.elim
section
variable {X:Cx}
def Zju (t u:TSx):TSx:=fun D Ex σ H=>t { D with nx:=fun σ1 H1=>u D Ex σ1 H1 } Ex σ H
end
end L2
namespace L2
open PySem PySem.Spec PyProof.Rows
open PySem.W (Frag)
section
variable {X:Cx}
end
end L2
namespace L2
open PySem PySem.Spec PyProof.Rows
theorem Zgq:∀(a b:List Nat),a<b∨a=b∨b<a
 | [],[]=>.inr (.inl rfl)
 | [],_::_=>.inl .nil
 | _::_,[]=>.inr (.inr .nil)
 | c::a,d::b=>by
  rcases Nat.lt_trichotomy c d with h | h | h
  ·exact .inl (List.Lex.rel h)
  ·subst h
   rcases Zgq a b with h | h | h
   ·exact .inl (List.Lex.cons h)
   ·exact .inr (.inl (by rw[h]))
   ·exact .inr (.inr (List.Lex.cons h))
  ·exact .inr (.inr (List.Lex.rel h))
theorem ZcD {α:Type}[DecidableEq α]:∀(l m:List α),l.Nodup→(∀x∈l,x∈m)→l.length≤m.length
 | [],m,_,_=>Nat.zero_le _
 | x::l,m,nd,h=>by
  have hx:=h x List.mem_cons_self
  have nd':=List.nodup_cons.mp nd
  have:=ZcD l (m.erase x) nd'.2 fun y hy=>(List.mem_erase_of_ne (fun e=>by rw[e]at hy;exact nd'.1 hy)).mpr (h y (List.mem_cons_of_mem _ hy))
  rw[List.length_erase_of_mem hx]at this
  have pos:0<m.length:=List.length_pos_of_mem hx
  rw[List.length_cons]
  omega
theorem Zd2 {α β:Type}{f:α→β}:∀ {l:List α},l.Nodup→(∀x∈l,∀y∈l,f x=f y→x=y)→(l.map f).Nodup
 | [],_,_=>by simp
 | x::l,nd,h=>by
  have nd':=List.nodup_cons.mp nd
  rw[List.map_cons,List.nodup_cons]
  refine⟨fun z=>?_,Zd2 nd'.2 fun a ha b hb=>h a (List.mem_cons_of_mem _ ha) b (List.mem_cons_of_mem _ hb)⟩
  obtain⟨y,hy,e⟩:=List.mem_map.mp z
  have:=h y (List.mem_cons_of_mem _ hy) x List.mem_cons_self e
  rw[this]at hy
  exact nd'.1 hy
section
variable {M:Model}{A:Around}{E:Value→Shared→Prop}{s:Shared}{bey:Nat→StateT SortSt Sem (Option Bool)}{B:Nat→Bool}{n h:Nat}{st:SortSt}{Q:Option Nat→SortSt→Prop}
end
structure Cmp (D:Keyed→Prop)(L:Keyed→Keyed→Bool):Prop where
 asym:∀x y,D x→D y→L x y=true→L y x=false
 tr:∀x y z,D x→D y→D z→L y x=false→L z y=false→L z x=false
abbrev Le (L:Keyed→Keyed→Bool)(x y:Keyed):Prop:=L y x=false
section
variable {D:Keyed→Prop}{L:Keyed→Keyed→Bool}{T o x y p:List Keyed}
end
section
variable {M:Model}{A:Around}{E:Value→Shared→Prop}{s:Shared}{D:Keyed→Prop}{L:Keyed→Keyed→Bool}{kd:SortKind}
end
section
variable {M:Model}{A:Around}{E:Value→Shared→Prop}{s:Shared}{D:Keyed→Prop}{L:Keyed→Keyed→Bool}{kd:SortKind}{p q:Array Keyed}{T:List Keyed}{st:SortSt}
structure LoH (D:Keyed→Prop)(L:Keyed→Keyed→Bool)(p q:Array Keyed):Prop where
 dp:∀u∈p.toList,D u
 dq:∀u∈q.toList,D u
 sp:p.toList.Pairwise (Le L)
 sq:q.toList.Pairwise (Le L)
 last:∀u∈q.toList,∀v∈p.toList.drop (p.size-1),L u v=true
end
section
variable {M:Model}{A:Around}{E:Value→Shared→Prop}{s:Shared}{D:Keyed→Prop}{L:Keyed→Keyed→Bool}{kd:SortKind}{p q:Array Keyed}{T:List Keyed}{st:SortSt}
structure HiH (D:Keyed→Prop)(L:Keyed→Keyed→Bool)(p q:Array Keyed):Prop where
 dp:∀u∈p.toList,D u
 dq:∀u∈q.toList,D u
 sp:p.toList.Pairwise (Le L)
 sq:q.toList.Pairwise (Le L)
 first:∀u∈q.toList.take 1,∀v∈p.toList,L u v=true
end
section
variable {M:Model}{A:Around}{E:Value→Shared→Prop}{s:Shared}{D:Keyed→Prop}{L:Keyed→Keyed→Bool}{kd:SortKind}{st:SortSt}
theorem slice {a:Array Keyed}{x y z:List Keyed}{b n:Nat}(h:a.toList=x++y++z)(hb:b=x.length)(hn:n=y.length):(a.toList.drop b).take n=y:=by
 rw[h,hb,hn,List.append_assoc,List.drop_left,List.take_left]
end
abbrev CmpT (L:Keyed→Keyed→Bool):Prop:=Cmp (fun _=>True) L
theorem CmpT.t {L:Keyed→Keyed→Bool}(h:CmpT L){x y z:Keyed}(e:Le L x y)(f:Le L y z):Le L x z:=h.tr x y z trivial trivial trivial e f
section
variable {M:Model}{A:Around}{E:Value→Shared→Prop}{s:Shared}{D:Keyed→Prop}{L:Keyed→Keyed→Bool}{kd:SortKind}{st:SortSt}
end
section
variable {M:Model}{A:Around}{E:Value→Shared→Prop}{s:Shared}{D:Keyed→Prop}{L:Keyed→Keyed→Bool}{kd:SortKind}{st:SortSt}
end
section
variable {M:Model}{A:Around}{E:Value→Shared→Prop}{s:Shared}{D:Keyed→Prop}{L:Keyed→Keyed→Bool}{kd:SortKind}{st:SortSt}
end
section
variable {M:Model}{A:Around}{E:Value→Shared→Prop}{s:Shared}{D:Keyed→Prop}{L:Keyed→Keyed→Bool}{kd:SortKind}{st:SortSt}
end
section
variable {prog:Program}{w:World}{A:Around}{E:Value→Shared→Prop}{s:Shared}{κ:KeyKind}
end
section
variable {prog:Program}{w:World}{A:Around}{E:Value→Shared→Prop}{s:Shared}{κ:KeyKind}
end
section
variable {prog:Program}{w:World}{A:Around}{E:Value→Shared→Prop}{s:Shared}
end
section
variable {X:Cx}{e:Expr}{ta:TA}{p p2 pos kpos:Pos}
end
section
variable {prog:Program}{w:World}{A:Around}{E:Value→Shared→Prop}{s:Shared}
end
structure Lin {α:Type}(lt:α→α→Bool):Prop where
 asym:∀a b,lt a b=true→lt b a=false
 trans:∀a b c,lt a b=true→lt b c=true→lt a c=true
 tri:∀a b,lt a b=false→lt b a=false→a=b
section
variable {prog:Program}{w:World}{A:Around}{E:Value→Shared→Prop}{s:Shared}
end
section
variable {prog:Program}{w:World}{A:Around}{E:Value→Shared→Prop}{s:Shared}
end
section
variable {prog:Program}{w:World}{A:Around}{E:Value→Shared→Prop}{s:Shared}
end
section
variable {X:Cx}
end
section
variable {X:Cx}{pins:List (Addr×Obj)}{σ:St}{H:Hp}{s:Shared}
end
section
variable {X:Cx}{tg:Expr}
end
section
variable {g:TG}{tb:TS}{D:Ends}{σ:St}{H:Hp}{o:Obj}{kvs:List (Key×V)}{a:Addr}
end
section
variable {prog:Program}{w:World}{A:Around}{E:Value→Shared→Prop}{s:Shared}
end
section
variable {X:Cx}
end
theorem Ziz {l x:List Nat}{n:Nat}:x∈Zab l n↔∃i,i<l.length∧x=(List.range n).map fun j=>cyc l (i+j):=by
 unfold Zab
 rw[(ZaE _).mem_iff,ZcF,Zbv]
theorem Za9 (l:List Nat)(n:Nat):(Zab l n).Pairwise (· < ·):=by
 have h1:(Zab l n).Pairwise (fun a b=>leT a b=true):=ZaY _
 have h2:(Zab l n).Nodup:=(ZaE _).nodup_iff.mpr (by rw[←ZcU];exact Zb3 _)
 refine(h1.and h2).imp ?_
 rintro a b ⟨x,y⟩
 have x':¬b<a:=by simpa [leT] using x
 rcases Zgq a b with z | z | z
 ·exact z
 ·exact absurd z y
 ·exact absurd z x'
theorem Zax {l:List Nat}(h1:1≤l.length):1≤Zae l∧Zae l≤l.length∧∀k,cyc l (k+Zae l)=cyc l k:=by
 obtain⟨r1,r2,r3,_⟩:=ZaD h1
 exact⟨r1,r2,((Zdt r1 r2).mp r3).2⟩
def RI (l x:List Nat):Prop:=∃i,∀j,j<x.length→x[j]?=some (cyc l (i+j))
theorem ZaN {l x:List Nat}{n:Nat}(h1:1≤l.length):x∈Zab l n↔x.length=n∧RI l x:=by
 rw[Ziz]
 constructor
 ·rintro⟨i,_,rfl⟩
  refine⟨by simp,i,fun j hj=>?_⟩
  rw[List.length_map,List.length_range]at hj
  rw[List.getElem?_map,List.getElem?_range hj]
  rfl
 ·rintro⟨rfl,i,h⟩
  refine⟨i % l.length,Nat.mod_lt _ h1,?_⟩
  apply List.ext_getElem?
  intro j
  rw[List.getElem?_map]
  by_cases hj:j<x.length
  ·rw[h j hj,List.getElem?_range hj]
   show _=some (cyc l (i % l.length+j))
   unfold cyc
   rw[Nat.mod_add_mod]
  ·rw[List.getElem?_eq_none (by omega),List.getElem?_eq_none (by rw[List.length_range];omega)]
   rfl
theorem RI.nil (l:List Nat):RI l []:=⟨0,fun j hj=>by simp at hj⟩
theorem RI.inf {l u w:List Nat}(h:RI l w)(hu:Inf u w):RI l u:=by
 obtain⟨i,h⟩:=h
 obtain⟨k,h1,h2⟩:=hu
 refine⟨i+k,fun j hj=>?_⟩
 have e:u[j]?=w[k+j]?:=by
  rw[←h2,List.getElem?_take,if_pos hj,List.getElem?_drop]
 rw[e,h (k+j) (by omega),Nat.add_assoc]
structure MissR (l w:List Nat):Prop where
 ne:w≠[]
 init:RI l w.dropLast
 tail:RI l w.tail
 no:¬RI l w
def Zba (l m:List Nat)(n:Nat):List (List Nat):=(List.range n).flatMap fun k=>Zdw (Zab l k) (Zab l (k+1)) m
theorem ZcK (l m:List Nat)(i:Nat):Zba l m (i+1)=Zba l m i++Zdw (Zab l i) (Zab l (i+1)) m:=by
 unfold Zba
 rw[List.range_succ,List.flatMap_append,List.flatMap_singleton]
theorem Zda {l m w:List Nat}{n:Nat}(h1:1≤l.length):w∈Zba l m n↔MissR l w∧(∃c∈m,w.getLast?=some c)∧w.length≤n:=by
 unfold Zba
 rw[List.mem_flatMap]
 constructor
 ·rintro⟨k,hk,hw⟩
  have hk:=List.mem_range.mp hk
  obtain⟨h,c,h2,hc,rfl,h3,h4⟩:=Zd4.mp hw
  rw[ZaN h1]at h2 h3
  refine⟨⟨by simp,by simpa using h2.2,h3.2,fun z=>h4 ((ZaN h1).mpr ⟨by simp[h2.1],z⟩)⟩,⟨c,hc,by simp⟩,?_⟩
  rw[List.length_append,h2.1,List.length_singleton];omega
 ·rintro⟨⟨ne,hi,ht,hn⟩,⟨c,hc,hl⟩,hlen⟩
  have e:w.dropLast++[c]=w:=by
   rw[List.getLast?_eq_some_getLast ne]at hl
   have h:=List.dropLast_concat_getLast ne
   rw[Option.some.inj hl]at h
   exact h
  have h2:1≤w.length:=List.length_pos_iff.mpr ne
  refine⟨w.length-1,List.mem_range.mpr (by omega),Zd4.mpr ⟨w.dropLast,c,?_,hc,e.symm,?_,?_⟩⟩
  ·rw[ZaN h1];exact⟨List.length_dropLast,hi⟩
  ·rw[ZaN h1];exact⟨List.length_tail,ht⟩
  ·rw[ZaN h1];exact fun z=>hn z.2
def sumW (f:Nat→Nat)(i:Nat):Nat→Nat
 | 0=>0
 | n+1=>sumW f i n+f (i+n)
theorem Zc2 (f:Nat→Nat)(i:Nat):∀n,sumW f i (n+1)=f i+sumW f (i+1) n
 | 0=>by simp[sumW]
 | n+1=>by
  have ih:=Zc2 f i n
  have e:sumW f i (n+1+1)=sumW f i (n+1)+f (i+(n+1)):=rfl
  have e2:sumW f (i+1) (n+1)=sumW f (i+1) n+f (i+1+n):=rfl
  have e3:i+(n+1)=i+1+n:=by omega
  rw[e,e2,ih,e3]
  omega
theorem Zex {f:Nat→Nat}{r:Nat}(hf:∀k,f (k+r)=f k)(i:Nat):sumW f (i+1) r=sumW f i r:=by
 have h1:=Zc2 f i r
 have h2:sumW f i (r+1)=sumW f i r+f (i+r):=rfl
 rw[hf]at h2
 omega
theorem Zdm {f:Nat→Nat}{r:Nat}(hf:∀k,f (k+r)=f k):∀i,sumW f i r=sumW f 0 r
 | 0=>rfl
 | i+1=>by rw[Zex hf,Zdm hf i]
theorem Zc3 {f:Nat→Nat}{i j:Nat}:∀ {n},(∀t,t<n→f (i+t)=f (j+t))→sumW f i n=sumW f j n
 | 0,_=>rfl
 | n+1,h=>by
  show sumW f i n+f (i+n)=sumW f j n+f (j+n)
  rw[Zc3 fun t ht=>h t (by omega),h n (by omega)]
theorem Zc0 {f:Nat→Nat}{r i j:Nat}(hr:1≤r)(hf:∀k,f (k+r)=f k)(h:∀t,t+1<r→f (i+t)=f (j+t)):∀t,f (i+t)=f (j+t):=by
 have all:∀t,t<r→f (i+t)=f (j+t):=by
  intro t ht
  by_cases z:t+1<r
  ·exact h t z
  ·have e:r=t+1:=by omega
   have h1:=(Zdm hf i).trans (Zdm hf j).symm
   rw[e]at h1
   have h2:sumW f i t+f (i+t)=sumW f j t+f (j+t):=h1
   have h3:sumW f i t=sumW f j t:=Zc3 fun u hu=>h u (by omega)
   omega
 have per:∀k t,f (t+k*r)=f t:=by
  intro k
  induction k with
  | zero=>intro t;simp
  | succ k ih=>intro t;rw[Nat.succ_mul,←Nat.add_assoc,hf,ih]
 intro t
 have e1:f (i+t)=f (i+t % r):=by
  rw[←per (t/r) (i+t % r)]
  congr 1
  have:=Nat.div_add_mod t r
  rw[Nat.mul_comm]at this
  omega
 have e2:f (j+t)=f (j+t % r):=by
  rw[←per (t/r) (j+t % r)]
  congr 1
  have:=Nat.div_add_mod t r
  rw[Nat.mul_comm]at this
  omega
 rw[e1,e2]
 exact all _ (Nat.mod_lt _ hr)
theorem Zgp {l w:List Nat}(h1:1≤l.length)(h:MissR l w):w.length≤Zae l:=by
 obtain⟨r1,_,per⟩:=Zax h1
 by_cases z:w.length≤Zae l
 ·exact z
 ·exfalso
  obtain⟨j,hj⟩:=h.init
  obtain⟨i,hi⟩:=h.tail
  rw[List.length_dropLast]at hj
  rw[List.length_tail]at hi
  have gi:∀t,t+1<w.length→w[t]?=some (cyc l (j+t)):=fun t ht=>by
   have:=hj t (by omega)
   rw[List.dropLast_eq_take,List.getElem?_take,if_pos (by omega)]at this
   exact this
  have gt:∀t,t+1<w.length→w[t+1]?=some (cyc l (i+t)):=fun t ht=>by
   have:=hi t (by omega)
   rw[List.getElem?_tail]at this
   exact this
  have ov:∀t,cyc l (i+t)=cyc l (j+1+t):=Zc0 r1 per fun t ht=>by
   have a:=gt t (by omega)
   have b:=gi (t+1) (by omega)
   rw[a]at b
   have e:j+(t+1)=j+1+t:=by omega
   rw[e]at b
   exact Option.some.inj b
  refine h.no ⟨j,fun t ht=>?_⟩
  by_cases y:t+1<w.length
  ·exact gi t y
  ·match t,y with
   | 0,y=>
    have:w.length=1:=by omega
    omega
   | t+1,y=>
    rw[gt t (by omega),ov]
    congr 2
    omega
theorem ZcX {l m:List Nat}(h1:1≤l.length):∀(n:Nat) (w:List Nat),w.length=n→(∀c∈w,c∈m)→¬RI l w→∃v,v∈Zba l m (Zae l)∧Inf v w:=by
 intro n
 induction n with
 | zero=>
  intro w hw _ hn
  rw[List.length_eq_zero_iff.mp hw]at hn
  exact absurd (RI.nil l) hn
 | succ n ih=>
  intro w hw hm hn
  have ne:w≠[]:=fun e=>by rw[e]at hw;simp at hw
  by_cases hi:RI l w.dropLast
  ·by_cases ht:RI l w.tail
   ·have ms:MissR l w:=⟨ne,hi,ht,hn⟩
    exact⟨w,(Zda h1).mpr ⟨ms,⟨w.getLast ne,hm _ (List.getLast_mem ne),List.getLast?_eq_some_getLast ne⟩,Zgp h1 ms⟩,Inf.refl w⟩
   ·obtain⟨v,k1,k2⟩:=ih w.tail (by rw[List.length_tail];omega) (fun c hc=>hm c (List.mem_of_mem_tail hc)) ht
    exact⟨v,k1,k2.trans (Zhv w)⟩
  ·obtain⟨v,k1,k2⟩:=ih w.dropLast (by rw[List.length_dropLast];omega) (fun c hc=>hm c (List.mem_of_mem_take (by rw[←List.dropLast_eq_take];exact hc))) hi
   exact⟨v,k1,k2.trans (Zhw w)⟩
theorem ZbB {l m w:List Nat}(h1:1≤l.length)(hm:∀c∈w,c∈m):RI l w↔∀v∈Zba l m (Zae l),¬Inf v w:=by
 constructor
 ·intro h v hv hw
  exact((Zda h1).mp hv).1.no (h.inf hw)
 ·intro h
  by_cases hi:RI l w
  ·exact hi
  ·obtain⟨v,k1,k2⟩:=ZcX (m:=m) h1 _ w rfl hm hi
   exact absurd k2 (h v k1)
instance (w l:List Nat):Decidable (Inf w l):=decidable_of_iff (∃i,i<l.length+1∧i+w.length≤l.length∧(l.drop i).take w.length=w) ⟨fun ⟨i,_,h⟩=>⟨i,h⟩,fun ⟨i,h⟩=>⟨i,by have:=h.1;omega,h⟩⟩
theorem Zbt {f:Nat→Nat}{a:Nat}(h:∀k,f (k+a)=f k):∀n k,f (k+a*n)=f k
 | 0,k=>by rw[Nat.mul_zero,Nat.add_zero]
 | n+1,k=>by rw[Nat.mul_succ,←Nat.add_assoc,h];exact Zbt h n k
theorem Ziq {f:Nat→Nat}(a b:Nat):(∀k,f (k+a)=f k)→(∀k,f (k+b)=f k)→∀k,f (k+Nat.gcd a b)=f k:=by
 induction a,b using Nat.gcd.induction with
 | H0 n=>intro _ h k;rw[Nat.gcd_zero_left];exact h k
 | H1 m n hm ih=>
  intro ha hb k
  rw[Nat.gcd_rec]
  refine ih (fun k=>?_) ha k
  rw[←Zbt ha (n/m) (k+n % m),Nat.add_assoc,Nat.add_comm (n % m),Nat.div_add_mod]
  exact hb k
def TurnAt (l l2:List Nat)(k:Nat):Prop:=(rootOf l).drop k++(rootOf l).take k=rootOf l2
theorem ZeS {r:List Nat}{k:Nat}(hk:k<r.length):Zcq r (k:Nat)=r.drop k++r.take k:=by
 unfold Zcq
 rw[Int.emod_eq_of_lt (by omega) (by omega)]
 simp
theorem TurnAt.words {l l2:List Nat}{k:Nat}(h1:1≤l.length)(h2:1≤l2.length)(hk:k<Zae l)(h:TurnAt l l2 k)(n:Nat):Zab l n=Zab l2 n:=by
 have rl:=ZaU h1
 have e:Zcq (rootOf l) (k:Nat)=rootOf l2:=(ZeS (by omega)).trans h
 rw[←ZbH h1,←ZbH h2,←e,ZcW (by have:=(Zax h1).1;omega)]
theorem TurnAt.root {l l2:List Nat}{k:Nat}(h1:1≤l.length)(h2:1≤l2.length)(h:TurnAt l l2 k):Zae l2=Zae l:=by
 have:=congrArg List.length h
 rw[List.length_append,List.length_drop,List.length_take,ZaU h2,ZaU h1]at this
 omega
theorem Zga {l l2:List Nat}{n:Nat}(h1:1≤l.length)(h2:1≤l2.length)(hw:Zab l n=Zab l2 n)(hn:Zae l2≤n):Zae l2≤Zae l:=by
 refine Nat.le_of_not_lt fun lt=>?_
 obtain⟨p1,p2,p3⟩:=Zax h1
 obtain⟨q1,q2,q3⟩:=Zax h2
 have ex:∀a:Nat,∃i,i<Zae l∧∀j,j<n→cyc l2 (a+j)=cyc l (i+j):=fun a=>by
  have hm:((List.range n).map fun j=>cyc l2 (a+j))∈Zab l n:=by
   rw[hw,ZaN h2]
   refine⟨by simp,a,fun j hj=>?_⟩
   rw[List.length_map,List.length_range]at hj
   rw[List.getElem?_map,List.getElem?_range hj];rfl
  obtain⟨_,i,hi⟩:=(ZaN h1).mp hm
  refine⟨i % Zae l,Nat.mod_lt _ p1,fun j hj=>?_⟩
  have:=hi j (by simpa using hj)
  rw[List.getElem?_map,List.getElem?_range hj]at this
  have e1:cyc l2 (a+j)=cyc l (i+j):=Option.some.inj this
  have e2:i+j=i % Zae l+j+Zae l*(i/Zae l):=by
   have:=Nat.div_add_mod i (Zae l)
   omega
  rw[e1,e2,Zbt p3]
 let g:Nat→Nat:=fun a=>Classical.choose (ex a)
 have hg:∀a,g a<Zae l∧∀j,j<n→cyc l2 (a+j)=cyc l (g a+j):=fun a=>Classical.choose_spec (ex a)
 have inj:¬ ∀a b,a<b→b<Zae l2→g a≠g b:=fun ne=>by
  have nd:((List.range (Zae l2)).map g).Nodup:=Zd2 List.nodup_range fun a ha b hb e=>by
   rw[List.mem_range]at ha hb
   rcases Nat.lt_trichotomy a b with z | z | z
   ·exact absurd e (ne a b z hb)
   ·exact z
   ·exact absurd e.symm (ne b a z ha)
  have:=ZcD _ (List.range (Zae l)) nd fun x hx=>by
   obtain⟨a,_,rfl⟩:=List.mem_map.mp hx
   exact List.mem_range.mpr (hg a).1
  rw[List.length_map,List.length_range,List.length_range]at this
  omega
 refine inj fun a b ab bl e=>?_
 have w1:∀t,cyc l2 (a+t)=cyc l2 (b+t):=Zc0 q1 q3 fun t ht=>by
  rw[(hg a).2 t (by omega),(hg b).2 t (by omega),e]
 have pd:∀k,cyc l2 (k+(b-a))=cyc l2 k:=fun k=>by
  have c1:k+(b-a)+Zae l2*a=b+(k+Zae l2*a-a):=by
   have:a≤Zae l2*a:=Nat.le_mul_of_pos_left a q1
   omega
  have c2:k+Zae l2*a=a+(k+Zae l2*a-a):=by
   have:a≤Zae l2*a:=Nat.le_mul_of_pos_left a q1
   omega
  rw[←Zbt q3 a (k+(b-a)),←Zbt q3 a k,c1,c2,w1]
  congr 2
  omega
 have pg:=Ziq (f:=cyc l2) (b-a) l2.length pd (Za8 l2)
 have g1:1≤Nat.gcd (b-a) l2.length:=Nat.gcd_pos_of_pos_right _ h2
 have g2:Nat.gcd (b-a) l2.length≤b-a:=Nat.gcd_le_left _ (by omega)
 have g3:Nat.gcd (b-a) l2.length∣l2.length:=Nat.gcd_dvd_right _ _
 have rp:=(Zdt g1 (Nat.le_of_dvd h2 g3)).mpr ⟨g3,pg⟩
 obtain⟨_,_,_,mn⟩:=ZaD h2
 rw[mn _ g1 (by omega)]at rp
 cases rp
theorem ZfS {l l2:List Nat}{n:Nat}(h1:1≤l.length)(h2:1≤l2.length)(hn:Zae l≤n)(hn2:Zae l2≤n)(hw:Zab l n=Zab l2 n):∃k,k<Zae l∧TurnAt l l2 k:=by
 have e:Zae l2=Zae l:=Nat.le_antisymm (Zga h1 h2 hw hn2) (Zga h2 h1 hw.symm hn)
 obtain⟨p1,p2,p3⟩:=Zax h1
 obtain⟨q1,q2,q3⟩:=Zax h2
 have hm:((List.range n).map fun j=>cyc l2 (0+j))∈Zab l n:=by
  rw[hw,ZaN h2]
  refine⟨by simp,0,fun j hj=>?_⟩
  rw[List.length_map,List.length_range]at hj
  rw[List.getElem?_map,List.getElem?_range hj];rfl
 obtain⟨_,i,hi⟩:=(ZaN h1).mp hm
 have a1:∀j,j<n→cyc l2 j=cyc l (i+j):=fun j hj=>by
  have:=hi j (by simpa using hj)
  rw[List.getElem?_map,List.getElem?_range hj]at this
  have t2:cyc l2 (0+j)=cyc l (i+j):=Option.some.inj this
  rw[Nat.zero_add]at t2
  exact t2
 have a2:∀j,cyc l2 j=cyc l (i+j):=fun j=>by
  have d:=Nat.div_add_mod j (Zae l)
  have e1:j=j % Zae l+Zae l*(j/Zae l):=by omega
  rw[e]at q3
  have hlt:=Nat.mod_lt j p1
  have b1:cyc l2 j=cyc l2 (j % Zae l):=by
   conv=>lhs;rw[e1]
   exact Zbt q3 _ _
  have b2:cyc l (i+j)=cyc l (i+j % Zae l):=by
   conv=>lhs;rw[e1,←Nat.add_assoc]
   exact Zbt p3 _ _
  rw[b1,b2]
  exact a1 _ (by omega)
 refine⟨i % Zae l,Nat.mod_lt _ p1,?_⟩
 have rl:=ZaU h1
 have r2:=ZaU h2
 have hk:i % Zae l<(rootOf l).length:=by rw[rl];exact Nat.mod_lt _ p1
 unfold TurnAt
 rw[←ZeS hk]
 have r1:1≤(rootOf l).length:=by omega
 refine ZiP (by rw[Zdj r1,rl,r2,e]) fun j=>?_
 rw[Zdk r1,←Zcm h1,←Zcm h2,a2]
 have:((((i % Zae l:Nat):Int) % ((rootOf l).length:Nat)).toNat)=i % Zae l:=by
  rw[Int.emod_eq_of_lt (by omega) (by omega)];exact Int.toNat_natCast _
 rw[this]
 have d:=Nat.div_add_mod i (Zae l)
 have e2:i+j=j+i % Zae l+Zae l*(i/Zae l):=by omega
 rw[e2,Zbt p3]
theorem Zjv {l l2:List Nat}{n:Nat}(h1:1≤l.length)(h2:1≤l2.length)(h:∀w,w.length=n→(RI l w↔RI l2 w)):Zab l n=Zab l2 n:=by
 refine List.Perm.eq_of_pairwise (le:=fun a b:List Nat=>a<b) (fun a b _ _ x y=>absurd (List.lt_trans x y) (List.lt_irrefl _)) (Za9 l n) (Za9 l2 n) ?_
 have nd:∀l,(Zab l n).Nodup:=fun l=>(Za9 l n).imp fun h e=>by rw[e]at h;exact List.lt_irrefl _ h
 refine(List.perm_ext_iff_of_nodup (nd l) (nd l2)).mpr fun w=>?_
 rw[ZaN h1,ZaN h2]
 constructor
 ·rintro⟨a,b⟩;exact⟨a,(h w a).mp b⟩
 ·rintro⟨a,b⟩;exact⟨a,(h w a).mpr b⟩
theorem ZhQ {l w:List Nat}(h1:1≤l.length)(h:RI l w):∀c∈w,c∈l:=by
 intro c hc
 obtain⟨j,hj,e⟩:=List.getElem_of_mem hc
 obtain⟨i,hi⟩:=h
 have:=hi j hj
 rw[List.getElem?_eq_getElem hj,e]at this
 rw[Option.some.inj this]
 exact ZiA h1 _
theorem Zgt {l l2 m:List Nat}(h1:1≤l.length)(h2:1≤l2.length)(m1:∀c∈l,c∈m)(m2:∀c∈l2,c∈m):Zba l m (Zae l)=Zba l2 m (Zae l2)↔∃k,k<Zae l∧TurnAt l l2 k:=by
 constructor
 ·intro e
  refine ZfS (n:=max (Zae l) (Zae l2)) h1 h2 (by omega) (by omega) (Zjv h1 h2 fun w hw=>?_)
  constructor
  ·intro h
   have wm:∀c∈w,c∈m:=fun c hc=>m1 c (ZhQ h1 h c hc)
   rw[ZbB h2 wm,←e,←ZbB h1 wm];exact h
  ·intro h
   have wm:∀c∈w,c∈m:=fun c hc=>m2 c (ZhQ h2 h c hc)
   rw[ZbB h1 wm,e,←ZbB h2 wm];exact h
 ·rintro⟨k,hk,t⟩
  have e:=t.words h1 h2 hk
  rw[t.root h1 h2]
  unfold Zba
  congr 1
  funext k
  rw[e,e]
structure FirstW (l l2:List Nat)(n:Nat)(w:List Nat):Prop where
 n1:1≤n
 eq:∀j,1≤j→j<n→Zab l j=Zab l2 j
 ne:Zab l n≠Zab l2 n
 mem:w∈xorT (Zab l n) (Zab l2 n)
 min:∀x∈xorT (Zab l n) (Zab l2 n),¬x<w
theorem FirstW.one {l l2:List Nat}{n n':Nat}{w w':List Nat}(h:FirstW l l2 n w)(h':FirstW l l2 n' w'):n=n'∧w=w':=by
 have e:n=n':=by
  rcases Nat.lt_trichotomy n n' with z | z | z
  ·exact absurd (h'.eq n h.n1 z) h.ne
  ·exact z
  ·exact absurd (h.eq n' h'.n1 z) h'.ne
 subst e
 refine⟨rfl,?_⟩
 rcases Zgq w w' with z | z | z
 ·exact absurd z (h'.min w h.mem)
 ·exact z
 ·exact absurd z (h.min w' h'.mem)
theorem ZhL {a b:List (List Nat)}(h:a≠b)(ha:a.Pairwise (· < ·))(hb:b.Pairwise (· < ·)):xorT a b≠[]:=by
 intro e
 apply h
 have nd:∀ {l:List (List Nat)},l.Pairwise (· < ·)→l.Nodup:=fun h=>h.imp fun h e=>by rw[e]at h;exact List.lt_irrefl _ h
 refine List.Perm.eq_of_pairwise (le:=fun a b:List Nat=>a<b) (fun a b _ _ x y=>absurd (List.lt_trans x y) (List.lt_irrefl _)) ha hb ?_
 refine(List.perm_ext_iff_of_nodup (nd ha) (nd hb)).mpr fun w=>?_
 have no:∀w,w∉xorT a b:=fun w=>by rw[e];exact List.not_mem_nil
 have:=no w
 unfold xorT at this
 rw[List.mem_append,List.mem_filter,List.mem_filter,decide_eq_true_iff,decide_eq_true_iff]at this
 constructor
 ·intro z;exact Classical.byContradiction fun k=>this (.inl ⟨z,k⟩)
 ·intro z;exact Classical.byContradiction fun k=>this (.inr ⟨z,k⟩)
theorem ZdL {l l2:List Nat}(h1:1≤l.length)(h2:1≤l2.length)(h:¬ ∃k,k<Zae l∧TurnAt l l2 k):∃n,1≤n∧n≤max l.length l2.length∧Zab l n≠Zab l2 n:=by
 obtain⟨p1,p2,_⟩:=Zax h1
 obtain⟨q1,q2,_⟩:=Zax h2
 exact⟨max (Zae l) (Zae l2),by omega,by omega,fun e=>h (ZfS h1 h2 (by omega) (by omega) e)⟩
section
variable {prog:Program}{w:World}{A:Around}{E:Value→Shared→Prop}{s:Shared}
end
section
variable {prog:Program}{w:World}{A:Around}{E:Value→Shared→Prop}{s s0:Shared}
end
end L2
namespace L2
open PySem PySem.Spec PyProof.Rows
open PySem.W (Frag)
end L2
namespace L2
open PySem PySem.Spec PyProof.Rows
section
variable {X:Cx}
end
section
variable {X:Cx}{pins:List (Addr×Obj)}{σ:St}{H:Hp}{s:Shared}{a b:Addr}{kvs more:List (Key×V)}{A:Around}{E:Value→Shared→Prop}
end
section
variable {prog:Program}{w:World}{A:Around}{E:Value→Shared→Prop}{s:Shared}{l I S:Addr}{ns:List Int}{vs:List Value}{R:Result→Shared→Prop}{Q:Value→Shared→Prop}{d:Value}
end
section
variable {X:Cx}{e:Expr}{ta:TA}{p p2 pos kpos:Pos}
end
section
variable {prog:Program}{w:World}{A:Around}{s:Shared}
end
section
variable {prog:Program}{w:World}{A:Around}{E:Value→Shared→Prop}{s:Shared}
end
end L2
namespace L2
open PySem PySem.Spec PyProof.Rows PySem.W
def Zhu:HO→Bool
 | .tbl _=>true
 | _=>false
def SameL (H H':Hp):Prop:=∀b o,H b=some o→Zhu o=false→H' b=some o
theorem SameL.trans {H H1 H2:Hp}(a:SameL H H1)(b:SameL H1 H2):SameL H H2:=fun c o e n=>b c o (a c o e n) n
theorem Same.l {H H':Hp}(s:Same H H'):SameL H H':=fun b o e _=>s b o e
section
variable {X:Cx}{pins:List (Addr×Obj)}{σ:St}{H:Hp}{s:Shared}
end
section
variable {X:Cx}{e:Expr}{ta:TA}{p pos kpos lpos p1 p2 p3 p4 p5:Pos}{k kk:Nat}{c P:Addr}{params:Arguments}{scope:Scope}{x q:Str}
end
section
variable {P:Program}{w:World}{K:PySem.W.Frag}{mg:Str→Option Value}{base:Heap}
end
end L2
namespace L2
open PySem PySem.Spec PyProof.Rows
def Chg (S:List Addr)(H H':Hp):Prop:=∀b o,H b=some o→b∉S→Zhu o=false→H' b=some o
theorem SameL.chg {S:List Addr}{H H':Hp}(s:SameL H H'):Chg S H H':=fun b o e _ t=>s b o e t
theorem Chg.trans {S:List Addr}{H H1 H2:Hp}(a:Chg S H H1)(b:Chg S H1 H2):Chg S H H2:=fun c o e n t=>b c o (a c o e n t) n t
theorem Chg.l {H H':Hp}(h:Chg [] H H'):SameL H H':=fun b o e t=>h b o e (by simp) t
def Nw (H:Hp)(r:Addr):Prop:=∀o,H r=some o→Zhu o=true
theorem Nw.l {H H1:Hp}{r:Addr}(n:Nw H1 r)(s:SameL H H1):Nw H r:=fun o e=>by
 cases t:Zhu o with
 | true=>rfl
 | false=>rw[←t];exact n o (s r o e t)
def RowA (H:Hp)(y:V)(r:List Nat×List V):Prop:=∃a b,y=.ref a∧H a=some (.tup [tx r.1,.ref b])∧H b=some (.tup r.2)
def RowsA (H:Hp)(ys:List V)(rs:List (List Nat×List V)):Prop:=ys.length=rs.length∧∀(i:Nat) (y:V),ys[i]?=some y→∃r,rs[i]?=some r∧RowA H y r
theorem RowsA.chg {S:List Addr}{H H':Hp}{ys:List V}{rs:List (List Nat×List V)}(h:RowsA H ys rs)(c:Chg S H H')(hS:∀b∈S,∀us,H b≠some (.tup us)):RowsA H' ys rs:=by
 refine⟨h.1,fun i y hy=>?_⟩
 obtain⟨r,hr,a,b,e,h1,h2⟩:=h.2 i y hy
 exact⟨r,hr,a,b,e,c _ _ h1 (fun z=>hS _ z _ h1) rfl,c _ _ h2 (fun z=>hS _ z _ h2) rfl⟩
theorem RowsA.l {H H':Hp}{ys:List V}{rs:List (List Nat×List V)}(h:RowsA H ys rs)(s:SameL H H'):RowsA H' ys rs:=h.chg (S:=[]) s.chg (by simp)
def PUT:List Nat:=[112,117,116]
def DROP:List Nat:=[100,114,111,112]
def ZlI (d:Bool×Nat):List V:=[tx (if d.1 then PUT else DROP),tx [d.2]]
def DeedsA (H:Hp)(ts:List V)(ds:List (Bool×Nat)):Prop:=ts.length=ds.length∧∀(i:Nat) (y:V),ts[i]?=some y→∃d,ds[i]?=some d∧∃t,y=.ref t∧H t=some (.tup (ZlI d))
theorem DeedsA.chg {S:List Addr}{H H':Hp}{ts:List V}{ds:List (Bool×Nat)}(h:DeedsA H ts ds)(c:Chg S H H')(hS:∀b∈S,∀us,H b≠some (.tup us)):DeedsA H' ts ds:=by
 refine⟨h.1,fun i y hy=>?_⟩
 obtain⟨d,hd,t,e,ht⟩:=h.2 i y hy
 exact⟨d,hd,t,e,c _ _ ht (fun z=>hS _ z _ ht) rfl⟩
inductive Run (m:List Nat):List (Bool×Nat)→List Nat→Prop
 | nil:Run m [] []
 | put {ds:List (Bool×Nat)} {l:List Nat} {c:Nat} (h:Run m ds l) (hc:c∈m) (hl:l.length<40):Run m (ds++[(true,c)]) (l++[c])
 | drop {ds:List (Bool×Nat)} {l:List Nat} {c:Nat} (h:Run m ds (c::l)):Run m (ds++[(false,c)]) l
def sF (l m:List Nat)(la da:Addr):List (Str×V):=[("own_text",tx l),("own_kinds",tx m),("own_lacking",.ref la),("own_deeds",.ref da)]
def LETx:List Nat:=[97,98,99,100,101,102,103,104,105,106,107,108,109,110,111,112,113,114,115,116,117,118,119,120,121,122]
def iskx (l:List Nat):Bool:=decide (1≤l.length)&&decide (l.length≤4)&&(l.all fun c=>LETx.contains c)&&decide (signs l=ZaQ (ddl (signs l)))
def Zkq (C:Addr)(H:Hp)(p la da:Addr)(l m:List Nat):Prop:=∃dx,H p=some (.ins C dx (sF l m la da))
structure KindsOk (m:List Nat):Prop where
 k:iskx m=true
 m1:1≤m.length
 m4:m.length≤4
 rise:m.Pairwise (· < ·)
structure StripAt (C:Addr)(H:Hp)(p la da:Addr)(l m:List Nat)(ds:List (Bool×Nat)):Prop where
 fld:Zkq C H p la da l m
 lack:H la=some (.lst ((Zj3 l m).map tx))
 deed:∃ts,H da=some (.lst ts)∧DeedsA H ts ds
 run:Run m ds l
 ok:KindsOk m
 ne:la≠da
theorem StripAt.chg {S:List Addr}{C:Addr}{H H':Hp}{p la da:Addr}{l m:List Nat}{ds:List (Bool×Nat)}(h:StripAt C H p la da l m ds)(c:Chg S H H')(hS:∀b∈S,∀us,H b≠some (.tup us))(n1:p∉S)(n2:la∉S)(n3:da∉S):StripAt C H' p la da l m ds:=by
 obtain⟨⟨dx,f⟩,k,⟨ts,d1,d2⟩,r,o,n⟩:=h
 exact⟨⟨dx,c _ _ f n1 rfl⟩,c _ _ k n2 rfl,⟨ts,c _ _ d1 n3 rfl,d2.chg c hS⟩,r,o,n⟩
theorem StripAt.l {C:Addr}{H H':Hp}{p la da:Addr}{l m:List Nat}{ds:List (Bool×Nat)}(h:StripAt C H p la da l m ds)(s:SameL H H'):StripAt C H' p la da l m ds:=h.chg (S:=[]) s.chg (by simp) (by simp) (by simp) (by simp)
end L2
namespace L2
open PySem PySem.Spec PyProof.Rows
open PySem.W (Frag)
section
variable {X:Cx}
end
theorem Zhp {K:Frag}{H:Hp}{Q:VK}{a b:Addr}{vs:List V}(h1:SqT K H a vs)(h2:SqT K H b vs)(hf:vs.all Za7=true)(q:Q (.bl false) H):rEqD K true (.ref a) (.ref b) H Q:=
 .inr ⟨_,_,datT h1 hf,datT h2 hf,fun z=>Bool.false_ne_true z.1,(ownT h1 hf).2.2,by rw[(ownT h1 hf).2.1];exact q⟩
end L2
namespace L2
open PySem PySem.W
def DG (K:Frag)(x:Str)(s:Stmt)(f:Addr)(e:FuncData):Prop:=nsIn K mainGlobals x=some (some (.ref f))∧Fun K x x s f e
def MG (K:Frag)(x q:Str)(s:Stmt)(f:Addr)(e:FuncData):Prop:=Fun K x q s f e∧PySem.W.isFn K (.ref f)=true
structure XG (K:Frag)(x:Str)(C:Addr)(L:List Value):Prop where
 a:nsIn K mainGlobals x=some (some (.ref C))
 m:Xm K C
 i:Xi K C
 k:ClsOk K C L
theorem xg_mk {K:Frag} {x:Str} {C:Addr} {L:List Value} {cd:ClassData} {nm qn:Str} {N:Addr} {bs bm:List Value} {hdct:Bool} {sn:List Str} {sub:List Value} {ab:Bool} {col:Option Bool} {dd:Option Addr} {k0 k1 k2 k3 k5:Option Value} (a:nsIn K mainGlobals x=some (some (.ref C))) (q:clsIn K C=some cd) (r:cd.mro=L) (ty:typeIn K (.ref C)=some (.type "type"))
  (ga:findIn K (.ref C) "__getattribute__"=some (some (.builtin "BaseException.__getattribute__"))) (gr:findIn K (.ref C) "__getattr__"=some none) (sa:findIn K (.ref C) "__setattr__"=some (some (.builtin "object.__setattr__"))) (hd:PySem.W.hasDictIn K C=true)
  (ob:K.lookup C=some (excClassObj nm qn C N bs bm hdct sn sub ab col dd k0 k1 k2 k3 k5 "ValueError.__new__")) (kp:PySem.W.keepIn K (.ref C)=true) (ha:findIn K (.ref C) "__class__"=some (some (.builtin "object.__class__")))
  (hn:specialIn K (.builtin "object.__class__") "__get__"=some (some (.builtin "getset_descriptor.__get__"))) (tk:PySem.W.takesIn K (.builtin "object.__class__")=some true) (x1:xmro L=true) (x2:L.isEmpty=false):XG K x C L:=
 have c:Xc K C:=⟨ga,gr,sa,hd,by rw[q];show xmro cd.mro=true;rw[r];exact x1⟩
 ⟨a,⟨c,⟨_,_,_,_,_,_,_,_,_,_,_,_,_,_,_,_,ob⟩,kp⟩,⟨c,ha,hn,tk⟩,⟨⟨_,q,r⟩,ty,x2⟩⟩
theorem dg_mk {K:Frag}{x:Str}{st:Stmt}{f:Addr}{oc:Value}{od an:Option Addr}{osl:Array (Option Value)}{kV doc pm cdv ct:Value}(a:nsIn K mainGlobals x=some (some (.ref f)))(l:K.lookup f=some ⟨oc,od,.func (PySem.W.fnOf x x (Zby st) (Zbf st) (Zah st) .none kV doc pm an cdv ct),osl⟩)
  (c:PySem.W.codeIn K cdv x=true) (k:PySem.W.keepIn K (.ref f)=true):DG K x st f (PySem.W.fnOf x x (Zby st) (Zbf st) (Zah st) .none kV doc pm an cdv ct):=⟨a,Zh0 l c k⟩
theorem mg_mk {K:Frag}{x q:Str}{st:Stmt}{f:Addr}{oc:Value}{od an:Option Addr}{osl:Array (Option Value)}{kV doc pm cdv ct:Value}(l:K.lookup f=some ⟨oc,od,.func (PySem.W.fnOf x q (Zby st) (Zbf st) (Zah st) .none kV doc pm an cdv ct),osl⟩)
  (c:PySem.W.codeIn K cdv q=true) (k:PySem.W.keepIn K (.ref f)=true) (n:PySem.W.isFn K (.ref f)=true):MG K x q st f (PySem.W.fnOf x q (Zby st) (Zbf st) (Zah st) .none kV doc pm an cdv ct):=⟨Zh0 l c k,n⟩
end L2
namespace L2
open PySem PySem.Spec PyProof.Rows
def Zb5 (t:TS):TS:=t
theorem Zaj {X:Cx}{st:List Stmt}{t:TS}(h:PSs X st t):PSs X st (Zb5 t):=h
theorem Zam {t:TS}{D:Ends}{σ:St}{H:Hp}(h:t D σ H):Zb5 t D σ H:=h
section
variable {X:Cx}
end
end L2
set_option maxHeartbeats 400000000
namespace Pk74
open PySem L2
def top (i:Nat):Stmt:=PySem.Challenge.pw_lackword_k74_whole_rings_the_same.main.body.getD i (.Pass ⟨0,0,0,0⟩)
abbrev s_KO:Stmt:=top 9
abbrev s_KP:Stmt:=top 10
abbrev s_KR:Stmt:=top 11
abbrev s_KI:Stmt:=top 12
abbrev s_KY:Stmt:=top 14
abbrev s_K0:Stmt:=top 16
abbrev s_KQ:Stmt:=top 21
abbrev s_K9:Stmt:=top 22
abbrev s_K1:Stmt:=top 24
abbrev s_K6:Stmt:=top 25
abbrev s_K4:Stmt:=top 26
abbrev s_KV:Stmt:=top 27
abbrev s_KS:Stmt:=top 28
abbrev s_K2:Stmt:=top 29
abbrev s_KW:Stmt:=top 30
abbrev s_K3:Stmt:=top 31
abbrev s_KZ:Stmt:=top 32
abbrev Zil:Stmt:=top 33
abbrev s_K5:Stmt:=top 34
abbrev s_KT:Stmt:=top 35
abbrev s_KX:Stmt:=top 36
abbrev Zik:Stmt:=top 37
abbrev s_KJ:Stmt:=inClass (top 17) 0
abbrev s_KE:Stmt:=inClass (top 17) 1
abbrev s_KK:Stmt:=inClass (top 17) 2
abbrev s_KF:Stmt:=inClass (top 17) 4
abbrev s_KC:Stmt:=inClass (top 17) 8
abbrev s_KM:Stmt:=inClass (top 20) 0
abbrev s_KA:Stmt:=inClass (top 20) 1
abbrev s_KN:Stmt:=inClass (top 20) 2
abbrev s_KH:Stmt:=inClass (top 20) 3
set_option genInjectivity false
set_option genSizeOf false
structure Ad where
 c_KL:Addr
 c_KU:Addr
 c_K7:Addr
 c_K8:Addr
 g_KJ:Addr
 e_KJ:FuncData
 g_KE:Addr
 e_KE:FuncData
 g_KK:Addr
 e_KK:FuncData
 g_KF:Addr
 e_KF:FuncData
 g_KC:Addr
 e_KC:FuncData
 g_KM:Addr
 e_KM:FuncData
 g_KA:Addr
 e_KA:FuncData
 g_KN:Addr
 e_KN:FuncData
 g_KH:Addr
 e_KH:FuncData
 f_KO:Addr
 d_KO:FuncData
 f_KP:Addr
 d_KP:FuncData
 f_KR:Addr
 d_KR:FuncData
 f_KI:Addr
 d_KI:FuncData
 f_KY:Addr
 d_KY:FuncData
 f_K0:Addr
 d_K0:FuncData
 f_KQ:Addr
 d_KQ:FuncData
 f_K9:Addr
 d_K9:FuncData
 f_K1:Addr
 d_K1:FuncData
 f_K6:Addr
 d_K6:FuncData
 f_K4:Addr
 d_K4:FuncData
 f_KV:Addr
 d_KV:FuncData
 f_KS:Addr
 d_KS:FuncData
 f_K2:Addr
 d_K2:FuncData
 f_KW:Addr
 d_KW:FuncData
 f_K3:Addr
 d_K3:FuncData
 f_KZ:Addr
 d_KZ:FuncData
 f_due:Addr
 d_due:FuncData
 f_K5:Addr
 d_K5:FuncData
 f_KT:Addr
 d_KT:FuncData
 f_KX:Addr
 d_KX:FuncData
 f_law:Addr
 d_law:FuncData
structure Txt (K:PySem.W.Frag)(mg:Str→Option Value)(a:Ad):Prop where
 m_KO:mg "has_only"=some (.ref a.f_KO)
 f_KO:Fun K "has_only" "has_only" s_KO a.f_KO a.d_KO
 b_KO:Binds K a.d_KO ["text","letters"] []
 m_KP:mg "is_kinds"=some (.ref a.f_KP)
 f_KP:Fun K "is_kinds" "is_kinds" s_KP a.f_KP a.d_KP
 b_KP:Binds K a.d_KP ["thing"] []
 m_KR:mg "is_word"=some (.ref a.f_KR)
 f_KR:Fun K "is_word" "is_word" s_KR a.f_KR a.d_KR
 b_KR:Binds K a.d_KR ["thing","kinds","most"] []
 m_KI:mg "need_kinds"=some (.ref a.f_KI)
 f_KI:Fun K "need_kinds" "need_kinds" s_KI a.f_KI a.d_KI
 b_KI:Binds K a.d_KI ["thing"] []
 m_KY:mg "pieces"=some (.ref a.f_KY)
 f_KY:Fun K "pieces" "pieces" s_KY a.f_KY a.d_KY
 b_KY:Binds K a.d_KY ["text","length"] []
 m_K0:mg "lacking_among"=some (.ref a.f_K0)
 f_K0:Fun K "lacking_among" "lacking_among" s_K0 a.f_K0 a.d_K0
 b_K0:Binds K a.d_K0 ["shorter","standing","kinds"] []
 m_KQ:mg "first_unlike_word"=some (.ref a.f_KQ)
 f_KQ:Fun K "first_unlike_word" "first_unlike_word" s_KQ a.f_KQ a.d_KQ
 b_KQ:Binds K a.d_KQ ["one","other"] []
 m_K9:mg "same"=some (.ref a.f_K9)
 f_K9:Fun K "same" "same" s_K9 a.f_K9 a.d_K9
 b_K9:Binds K a.d_K9 ["one","other"] []
 m_K1:mg "_law_cell"=some (.ref a.f_K1)
 f_K1:Fun K "_law_cell" "_law_cell" s_K1 a.f_K1 a.d_K1
 b_K1:Binds K a.d_K1 ["_law_script","_law_k"] []
 m_K6:mg "_law_whole"=some (.ref a.f_K6)
 f_K6:Fun K "_law_whole" "_law_whole" s_K6 a.f_K6 a.d_K6
 b_K6:Binds K a.d_K6 ["_law_thing"] []
 m_K4:mg "_law_mixed"=some (.ref a.f_K4)
 f_K4:Fun K "_law_mixed" "_law_mixed" s_K4 a.f_K4 a.d_K4
 b_K4:Binds K a.d_K4 ["_law_cell_here","_law_k"] []
 m_KV:mg "_law_kinds"=some (.ref a.f_KV)
 f_KV:Fun K "_law_kinds" "_law_kinds" s_KV a.f_KV a.d_KV
 b_KV:Binds K a.d_KV ["_law_cell_here"] []
 m_KS:mg "_law_letters"=some (.ref a.f_KS)
 f_KS:Fun K "_law_letters" "_law_letters" s_KS a.f_KS a.d_KS
 b_KS:Binds K a.d_KS ["_law_way","_law_cell_here","_law_kinds_here","_law_size"] []
 m_K2:mg "_law_ring"=some (.ref a.f_K2)
 f_K2:Fun K "_law_ring" "_law_ring" s_K2 a.f_K2 a.d_K2
 b_K2:Binds K a.d_K2 ["_law_script","_law_at","_law_kinds_here"] []
 m_KW:mg "_law_words"=some (.ref a.f_KW)
 f_KW:Fun K "_law_words" "_law_words" s_KW a.f_KW a.d_KW
 b_KW:Binds K a.d_KW ["_law_text","_law_length"] []
 m_K3:mg "_law_root"=some (.ref a.f_K3)
 f_K3:Fun K "_law_root" "_law_root" s_K3 a.f_K3 a.d_K3
 b_K3:Binds K a.d_K3 ["_law_text"] []
 m_KZ:mg "_law_second"=some (.ref a.f_KZ)
 f_KZ:Fun K "_law_second" "_law_second" s_KZ a.f_KZ a.d_KZ
 b_KZ:Binds K a.d_KZ ["_law_script","_law_text","_law_kinds_here"] []
 m_due:mg "_law_due"=some (.ref a.f_due)
 f_due:Fun K "_law_due" "_law_due" Zil a.f_due a.d_due
 b_due:Binds K a.d_due ["_law_text","_law_other"] []
 m_K5:mg "_law_right"=some (.ref a.f_K5)
 f_K5:Fun K "_law_right" "_law_right" s_K5 a.f_K5 a.d_K5
 b_K5:Binds K a.d_K5 ["_law_one","_law_other","_law_due_here"] []
 m_KT:mg "_law_unlike"=some (.ref a.f_KT)
 f_KT:Fun K "_law_unlike" "_law_unlike" s_KT a.f_KT a.d_KT
 b_KT:Binds K a.d_KT ["_law_one","_law_other"] []
 m_KX:mg "_law_other_kinds"=some (.ref a.f_KX)
 f_KX:Fun K "_law_other_kinds" "_law_other_kinds" s_KX a.f_KX a.d_KX
 b_KX:Binds K a.d_KX ["_law_kinds_here","_law_cell_here"] []
 m_law:mg "law"=some (.ref a.f_law)
 f_law:Fun K "law" "law" Zik a.f_law a.d_law
 b_law:Binds K a.d_law ["_law_script"] []
 m_KL:mg "LackError"=some (.ref a.c_KL)
 x_KL:Xm K a.c_KL
 xi_KL:Xi K a.c_KL
 k_KL:ClsOk K a.c_KL [.ref a.c_KL,.type "ValueError",.type "Exception",.type "BaseException",.type "object"]
 i_KL:PySem.W.findIn K (.ref a.c_KL) "__init__"=some (some (.builtin "ValueError.__init__"))
 r_KL:ClsRead K a.c_KL "__init__" (.builtin "ValueError.__init__")
 m_KU:mg "Unlike"=some (.ref a.c_KU)
 x_KU:Xm K a.c_KU
 xi_KU:Xi K a.c_KU
 k_KU:ClsOk K a.c_KU [.ref a.c_KU,.ref a.c_KL,.type "ValueError",.type "Exception",.type "BaseException",.type "object"]
 i_KU:PySem.W.findIn K (.ref a.c_KU) "__init__"=some (some (.builtin "ValueError.__init__"))
 m_K7:mg "Band"=some (.ref a.c_K7)
 cr_K7:ClsRead K a.c_K7 "__init__" (.ref a.g_KJ)
 cl_K7:Cls K a.c_K7
 m_K8:mg "Ring"=some (.ref a.c_K8)
 cr_K8:ClsRead K a.c_K8 "__init__" (.ref a.g_KM)
 cl_K8:Cls K a.c_K8
 mk_K8:Mk K a.c_K8 a.g_KM
 me_Ring_kinds:Meth K a.c_K8 "kinds" a.g_KE
 me_Ring_text:Meth K a.c_K8 "text" a.g_KK
 me_Ring_words:Meth K a.c_K8 "words" a.g_KF
 me_KA:Meth K a.c_K8 "laid_out" a.g_KA
 me_KH:Meth K a.c_K8 "reach" a.g_KH
 me_KN:Meth K a.c_K8 "root" a.g_KN
 me_Ring_lacking:Meth K a.c_K8 "lacking" a.g_KC
 n_Ring_own_text:NoAttr K a.c_K8 "own_text"
 n_Ring_own_kinds:NoAttr K a.c_K8 "own_kinds"
 ty_K8:∀ {H:Hp} {x dx:Addr} {fs:List (Str×V)},H x=some (.ins a.c_K8 dx fs)→TyOf K H (.ref x) (.ref a.c_K8)
 fm_KJ:Fun K "__init__" "Band.__init__" s_KJ a.g_KJ a.e_KJ
 kp_KJ:PySem.W.keepIn K (.ref a.g_KJ)=true
 b_KJ:Binds K a.e_KJ ["self","text","kinds"] []
 fm_KE:Fun K "kinds" "Band.kinds" s_KE a.g_KE a.e_KE
 kp_KE:PySem.W.keepIn K (.ref a.g_KE)=true
 b_KE:Binds K a.e_KE ["self"] []
 fm_KK:Fun K "text" "Band.text" s_KK a.g_KK a.e_KK
 kp_KK:PySem.W.keepIn K (.ref a.g_KK)=true
 b_KK:Binds K a.e_KK ["self"] []
 fm_KF:Fun K "words" "Band.words" s_KF a.g_KF a.e_KF
 kp_KF:PySem.W.keepIn K (.ref a.g_KF)=true
 b_KF:Binds K a.e_KF ["self","length"] []
 fm_KC:Fun K "lacking" "Band.lacking" s_KC a.g_KC a.e_KC
 kp_KC:PySem.W.keepIn K (.ref a.g_KC)=true
 b_KC:Binds K a.e_KC ["self"] []
 fm_KM:Fun K "__init__" "Ring.__init__" s_KM a.g_KM a.e_KM
 kp_KM:PySem.W.keepIn K (.ref a.g_KM)=true
 b_KM:Binds K a.e_KM ["self","text","kinds"] []
 fm_KA:Fun K "laid_out" "Ring.laid_out" s_KA a.g_KA a.e_KA
 kp_KA:PySem.W.keepIn K (.ref a.g_KA)=true
 b_KA:Binds K a.e_KA ["self","length"] []
 fm_KN:Fun K "root" "Ring.root" s_KN a.g_KN a.e_KN
 kp_KN:PySem.W.keepIn K (.ref a.g_KN)=true
 b_KN:Binds K a.e_KN ["self"] []
 fm_KH:Fun K "reach" "Ring.reach" s_KH a.g_KH a.e_KH
 kp_KH:PySem.W.keepIn K (.ref a.g_KH)=true
 b_KH:Binds K a.e_KH ["self"] []
 nd:[a.c_KL,a.c_KU].Nodup
 z_len:mg "len"=none
 z_range:mg "range"=none
 z_isinstance:mg "isinstance"=none
 z_all:mg "all"=none
 z_min:mg "min"=none
 z_list:mg "list"=none
 z_tuple:mg "tuple"=none
 z_set:mg "set"=none
 z_sorted:mg "sorted"=none
 z_str:mg "str"=none
 z_int:mg "int"=none
 z_bool:mg "bool"=none
 z_ValueError:mg "ValueError"=none
 c_KB:∃t,mg "SMALL_LETTERS"=some (.str (Str.ofString "abcdefghijklmnopqrstuvwxyz") t)
 c_KG:∃t,mg "MOST_KINDS"=some (.int 4 t)
 c_KD:∃t,mg "MOST_IN_RING"=some (.int 20 t)
 bl:∀(s:Shared) (u:Value),BindsTo s a.d_law ⟨[u],[]⟩ [("_law_script",u)]
theorem lenA {P:List Value→Prop}(h:∀a,P [a]):∀us:List Value,us.length=1→P us
 | [a],_=>h a
local macro_rules | `(tactic| walk_at "b1") => `(tactic| (intro _ _ _ _ _ _; refine lenA ?_; intros; rfl))
theorem lenB {P:List Value→Prop}(h:∀a b,P [a,b]):∀us:List Value,us.length=2→P us
 | [a,b],_=>h a b
local macro_rules | `(tactic| walk_at "b2") => `(tactic| (intro _ _ _ _ _ _; refine lenB ?_; intros; rfl))
theorem lenC {P:List Value→Prop}(h:∀a b c,P [a,b,c]):∀us:List Value,us.length=3→P us
 | [a,b,c],_=>h a b c
local macro_rules | `(tactic| walk_at "b3") => `(tactic| (intro _ _ _ _ _ _; refine lenC ?_; intros; rfl))
theorem lenD {P:List Value→Prop}(h:∀a b c d,P [a,b,c,d]):∀us:List Value,us.length=4→P us
 | [a,b,c,d],_=>h a b c d
local macro_rules | `(tactic| walk_at "b4") => `(tactic| (intro _ _ _ _ _ _; refine lenD ?_; intros; rfl))
theorem txt_mk {K:PySem.W.Frag}{h:Heap}{mg:Str→Option Value}(X:K.In h)(G:h.Ns mainGlobals mg){c_KL:Addr}{c_KU:Addr}{g_KJ:Addr}{e_KJ:FuncData}{g_KE:Addr}{e_KE:FuncData}{g_KK:Addr}{e_KK:FuncData}{g_KF:Addr}{e_KF:FuncData}{g_KC:Addr}{e_KC:FuncData}{g_KM:Addr}{e_KM:FuncData}{g_KA:Addr}{e_KA:FuncData}{g_KN:Addr}{e_KN:FuncData}{g_KH:Addr}{e_KH:FuncData}{c_K7:Addr}{c_K8:Addr}{f_KO:Addr}{d_KO:FuncData}{f_KP:Addr}{d_KP:FuncData}{f_KR:Addr}{d_KR:FuncData}{f_KI:Addr}{d_KI:FuncData}{f_KY:Addr}{d_KY:FuncData}{f_K0:Addr}{d_K0:FuncData}{f_KQ:Addr}{d_KQ:FuncData}{f_K9:Addr}{d_K9:FuncData}{f_K1:Addr}{d_K1:FuncData}{f_K6:Addr}{d_K6:FuncData}{f_K4:Addr}{d_K4:FuncData}{f_KV:Addr}{d_KV:FuncData}{f_KS:Addr}{d_KS:FuncData}{f_K2:Addr}{d_K2:FuncData}{f_KW:Addr}{d_KW:FuncData}{f_K3:Addr}{d_K3:FuncData}{f_KZ:Addr}{d_KZ:FuncData}{f_due:Addr}{d_due:FuncData}{f_K5:Addr}{d_K5:FuncData}{f_KT:Addr}{d_KT:FuncData}{f_KX:Addr}{d_KX:FuncData}{f_law:Addr}{d_law:FuncData}{tk_KB:Tok}{tk_KG:Tok}{tk_KD:Tok}
  (X_LackError:XG K "LackError" c_KL [.ref c_KL,.type "ValueError",.type "Exception",.type "BaseException",.type "object"])
  (i_KL:PySem.W.findIn K (.ref c_KL) "__init__"=some (some (.builtin "ValueError.__init__")))
  (rs_KL:PySem.W.specialIn K (.ref c_KL) "__getattribute__"=some (some (.builtin "type.__getattribute__")))
  (rr_KL:PySem.W.readsIn K c_KL (.type "type")=true)
  (rf_KL:PySem.W.findCls K (.ref c_KL) (.type "type") "__init__"=some (.val (.builtin "ValueError.__init__")))
  (X_Unlike:XG K "Unlike" c_KU [.ref c_KU,.ref c_KL,.type "ValueError",.type "Exception",.type "BaseException",.type "object"])
  (i_KU:PySem.W.findIn K (.ref c_KU) "__init__"=some (some (.builtin "ValueError.__init__")))
  (ow_hn:PySem.W.specialIn K (.builtin "object.__class__") "__get__"=some (some (.builtin "getset_descriptor.__get__")))
  (ow_tk:PySem.W.takesIn K (.builtin "object.__class__")=some true)
  (a_K7:PySem.W.nsIn K mainGlobals "Band"=some (some (.ref c_K7)))
  (pg_K7:PySem.W.plainGet K c_K7 Str.empty=true)
  (hd_K7:PySem.W.hasDictIn K c_K7=true)
  (po_K7:PySem.W.plainOver K c_K7=true)
  (sa_K7:PySem.W.findIn K (.ref c_K7) "__setattr__"=some (some (.builtin "object.__setattr__")))
  (rs_K7:PySem.W.specialIn K (.ref c_K7) "__getattribute__"=some (some (.builtin "type.__getattribute__")))
  (rr_K7:PySem.W.readsIn K c_K7 (.type "type")=true)
  (rf_K7:PySem.W.findCls K (.ref c_K7) (.type "type") "__init__"=some (.val (.ref g_KJ)))
  (a_K8:PySem.W.nsIn K mainGlobals "Ring"=some (some (.ref c_K8)))
  (pg_K8:PySem.W.plainGet K c_K8 Str.empty=true)
  (hd_K8:PySem.W.hasDictIn K c_K8=true)
  (po_K8:PySem.W.plainOver K c_K8=true)
  (sa_K8:PySem.W.findIn K (.ref c_K8) "__setattr__"=some (some (.builtin "object.__setattr__")))
  (rs_K8:PySem.W.specialIn K (.ref c_K8) "__getattribute__"=some (some (.builtin "type.__getattribute__")))
  (rr_K8:PySem.W.readsIn K c_K8 (.type "type")=true)
  (rf_K8:PySem.W.findCls K (.ref c_K8) (.type "type") "__init__"=some (.val (.ref g_KM)))
  (mk_K8:PySem.W.makesIn K c_K8=true)
  (in_K8:PySem.W.findIn K (.ref c_K8) "__init__"=some (some (.ref g_KM)))
  (kc_K8:PySem.W.keepIn K (.ref c_K8)=true)
  (ha_K8:PySem.W.findIn K (.ref c_K8) "__class__"=some (some (.builtin "object.__class__")))
  (mo_K8:PySem.W.mroIn K c_K8 (.type "object")=some true)
  (me_Ring_kinds:PySem.W.findIn K (.ref c_K8) "kinds"=some (some (.ref g_KE)))
  (me_Ring_text:PySem.W.findIn K (.ref c_K8) "text"=some (some (.ref g_KK)))
  (me_Ring_words:PySem.W.findIn K (.ref c_K8) "words"=some (some (.ref g_KF)))
  (me_KA:PySem.W.findIn K (.ref c_K8) "laid_out"=some (some (.ref g_KA)))
  (me_KH:PySem.W.findIn K (.ref c_K8) "reach"=some (some (.ref g_KH)))
  (me_KN:PySem.W.findIn K (.ref c_K8) "root"=some (some (.ref g_KN)))
  (me_Ring_lacking:PySem.W.findIn K (.ref c_K8) "lacking"=some (some (.ref g_KC)))
  (n_Ring_own_text:PySem.W.findIn K (.ref c_K8) "own_text"=some none)
  (n_Ring_own_kinds:PySem.W.findIn K (.ref c_K8) "own_kinds"=some none)
  (F_Band_init:MG K "__init__" "Band.__init__" s_KJ g_KJ e_KJ)
  (F_Band_kinds:MG K "kinds" "Band.kinds" s_KE g_KE e_KE)
  (F_Band_text:MG K "text" "Band.text" s_KK g_KK e_KK)
  (F_Band_words:MG K "words" "Band.words" s_KF g_KF e_KF)
  (F_Band_lacking:MG K "lacking" "Band.lacking" s_KC g_KC e_KC)
  (F_Ring_init:MG K "__init__" "Ring.__init__" s_KM g_KM e_KM)
  (F_Ring_laid_out:MG K "laid_out" "Ring.laid_out" s_KA g_KA e_KA)
  (F_Ring_root:MG K "root" "Ring.root" s_KN g_KN e_KN)
  (F_Ring_reach:MG K "reach" "Ring.reach" s_KH g_KH e_KH)
  (nd:[c_KL,c_KU].Nodup)
  (D_has_only:DG K "has_only" s_KO f_KO d_KO)
  (D_is_kinds:DG K "is_kinds" s_KP f_KP d_KP)
  (D_is_word:DG K "is_word" s_KR f_KR d_KR)
  (D_need_kinds:DG K "need_kinds" s_KI f_KI d_KI)
  (D_pieces:DG K "pieces" s_KY f_KY d_KY)
  (D_among:DG K "lacking_among" s_K0 f_K0 d_K0)
  (D_funlike:DG K "first_unlike_word" s_KQ f_KQ d_KQ)
  (D_same:DG K "same" s_K9 f_K9 d_K9)
  (D_lcell:DG K "_law_cell" s_K1 f_K1 d_K1)
  (D_whole:DG K "_law_whole" s_K6 f_K6 d_K6)
  (D_mixed:DG K "_law_mixed" s_K4 f_K4 d_K4)
  (D_lkinds:DG K "_law_kinds" s_KV f_KV d_KV)
  (D_letters:DG K "_law_letters" s_KS f_KS d_KS)
  (D_lring:DG K "_law_ring" s_K2 f_K2 d_K2)
  (D_lwords:DG K "_law_words" s_KW f_KW d_KW)
  (D_lroot:DG K "_law_root" s_K3 f_K3 d_K3)
  (D_second:DG K "_law_second" s_KZ f_KZ d_KZ)
  (D_due:DG K "_law_due" Zil f_due d_due)
  (D_right:DG K "_law_right" s_K5 f_K5 d_K5)
  (D_lunlike:DG K "_law_unlike" s_KT f_KT d_KT)
  (D_okinds:DG K "_law_other_kinds" s_KX f_KX d_KX)
  (D_law:DG K "law" Zik f_law d_law)
  (z_len:PySem.W.nsIn K mainGlobals "len"=some none)
  (z_range:PySem.W.nsIn K mainGlobals "range"=some none)
  (z_isinstance:PySem.W.nsIn K mainGlobals "isinstance"=some none)
  (z_all:PySem.W.nsIn K mainGlobals "all"=some none)
  (z_min:PySem.W.nsIn K mainGlobals "min"=some none)
  (z_list:PySem.W.nsIn K mainGlobals "list"=some none)
  (z_tuple:PySem.W.nsIn K mainGlobals "tuple"=some none)
  (z_set:PySem.W.nsIn K mainGlobals "set"=some none)
  (z_sorted:PySem.W.nsIn K mainGlobals "sorted"=some none)
  (z_str:PySem.W.nsIn K mainGlobals "str"=some none)
  (z_int:PySem.W.nsIn K mainGlobals "int"=some none)
  (z_bool:PySem.W.nsIn K mainGlobals "bool"=some none)
  (z_ValueError:PySem.W.nsIn K mainGlobals "ValueError"=some none)
  (c_KB:PySem.W.nsIn K mainGlobals "SMALL_LETTERS"=some (some (.str (Str.ofString "abcdefghijklmnopqrstuvwxyz") tk_KB)))
  (c_KG:PySem.W.nsIn K mainGlobals "MOST_KINDS"=some (some (.int 4 tk_KG)))
  (c_KD:PySem.W.nsIn K mainGlobals "MOST_IN_RING"=some (some (.int 20 tk_KD))):∃a,Txt K mg a:=by
 obtain⟨_,_,_,_,_,_,_,_,_,rfl,_⟩:=id D_law.2.ex
 refine⟨{ c_KL,c_KU,c_K7,c_K8,g_KJ,e_KJ,g_KE,e_KE,g_KK,e_KK,g_KF,e_KF,g_KC,e_KC,g_KM,e_KM,g_KA,e_KA,g_KN,e_KN,g_KH,e_KH,f_KO,d_KO,f_KP,d_KP,f_KR,d_KR,f_KI,d_KI,f_KY,d_KY,f_K0,d_K0,f_KQ,d_KQ,f_K9,d_K9,f_K1,d_K1,f_K6,d_K6,f_K4,d_K4,f_KV,d_KV,f_KS,d_KS,f_K2,d_K2,f_KW,d_KW,f_K3,d_K3,f_KZ,d_KZ,f_due,d_due,f_K5,d_K5,f_KT,d_KT,f_KX,d_KX,f_law,d_law:=_ },{ m_KO:=PySem.W.mg_of X G D_has_only.1,f_KO:=D_has_only.2,b_KO:=D_has_only.2.binds (by walk_at "b2"),m_KP:=PySem.W.mg_of X G D_is_kinds.1,f_KP:=D_is_kinds.2,b_KP:=D_is_kinds.2.binds (by walk_at "b1"),m_KR:=PySem.W.mg_of X G D_is_word.1,f_KR:=D_is_word.2,b_KR:=D_is_word.2.binds (by walk_at "b3"),m_KI:=PySem.W.mg_of X G D_need_kinds.1,f_KI:=D_need_kinds.2,b_KI:=D_need_kinds.2.binds (by walk_at "b1"),m_KY:=PySem.W.mg_of X G D_pieces.1,f_KY:=D_pieces.2,b_KY:=D_pieces.2.binds (by walk_at "b2"),m_K0:=PySem.W.mg_of X G D_among.1,f_K0:=D_among.2,b_K0:=D_among.2.binds (by walk_at "b3"),m_KQ:=PySem.W.mg_of X G D_funlike.1,f_KQ:=D_funlike.2,b_KQ:=D_funlike.2.binds (by walk_at "b2"),m_K9:=PySem.W.mg_of X G D_same.1,f_K9:=D_same.2,b_K9:=D_same.2.binds (by walk_at "b2"),m_K1:=PySem.W.mg_of X G D_lcell.1,f_K1:=D_lcell.2,b_K1:=D_lcell.2.binds (by walk_at "b2"),m_K6:=PySem.W.mg_of X G D_whole.1,f_K6:=D_whole.2,b_K6:=D_whole.2.binds (by walk_at "b1"),m_K4:=PySem.W.mg_of X G D_mixed.1,f_K4:=D_mixed.2,b_K4:=D_mixed.2.binds (by walk_at "b2"),m_KV:=PySem.W.mg_of X G D_lkinds.1,f_KV:=D_lkinds.2,b_KV:=D_lkinds.2.binds (by walk_at "b1"),m_KS:=PySem.W.mg_of X G D_letters.1,f_KS:=D_letters.2,b_KS:=D_letters.2.binds (by walk_at "b4"),m_K2:=PySem.W.mg_of X G D_lring.1,f_K2:=D_lring.2,b_K2:=D_lring.2.binds (by walk_at "b3"),m_KW:=PySem.W.mg_of X G D_lwords.1,f_KW:=D_lwords.2,b_KW:=D_lwords.2.binds (by walk_at "b2"),m_K3:=PySem.W.mg_of X G D_lroot.1,f_K3:=D_lroot.2,b_K3:=D_lroot.2.binds (by walk_at "b1"),m_KZ:=PySem.W.mg_of X G D_second.1,f_KZ:=D_second.2,b_KZ:=D_second.2.binds (by walk_at "b3"),m_due:=PySem.W.mg_of X G D_due.1,f_due:=D_due.2,b_due:=D_due.2.binds (by walk_at "b2"),m_K5:=PySem.W.mg_of X G D_right.1,f_K5:=D_right.2,b_K5:=D_right.2.binds (by walk_at "b3"),m_KT:=PySem.W.mg_of X G D_lunlike.1,f_KT:=D_lunlike.2,b_KT:=D_lunlike.2.binds (by walk_at "b2"),m_KX:=PySem.W.mg_of X G D_okinds.1,f_KX:=D_okinds.2,b_KX:=D_okinds.2.binds (by walk_at "b2"),m_law:=PySem.W.mg_of X G D_law.1,f_law:=D_law.2,b_law:=D_law.2.binds (by walk_at "b1"),m_KL:=PySem.W.mg_of X G X_LackError.a,x_KL:=X_LackError.m,xi_KL:=X_LackError.i,k_KL:=X_LackError.k,i_KL,r_KL:=⟨rs_KL,rr_KL,rf_KL,rfl⟩,m_KU:=PySem.W.mg_of X G X_Unlike.a,x_KU:=X_Unlike.m,xi_KU:=X_Unlike.i,k_KU:=X_Unlike.k,i_KU,m_K7:=PySem.W.mg_of X G a_K7,cr_K7:=⟨rs_K7,rr_K7,rf_K7,rfl⟩,cl_K7:=⟨pg_K7,hd_K7,po_K7,sa_K7⟩,m_K8:=PySem.W.mg_of X G a_K8,cr_K8:=⟨rs_K8,rr_K8,rf_K8,rfl⟩,cl_K8:=⟨pg_K8,hd_K8,po_K8,sa_K8⟩,mk_K8:=⟨mk_K8,in_K8,F_Ring_init.2,kc_K8⟩,me_Ring_kinds:=⟨me_Ring_kinds,F_Band_kinds.2,F_Band_kinds.1.kp⟩,me_Ring_text:=⟨me_Ring_text,F_Band_text.2,F_Band_text.1.kp⟩,me_Ring_words:=⟨me_Ring_words,F_Band_words.2,F_Band_words.1.kp⟩,me_KA:=⟨me_KA,F_Ring_laid_out.2,F_Ring_laid_out.1.kp⟩,me_KH:=⟨me_KH,F_Ring_reach.2,F_Ring_reach.1.kp⟩,me_KN:=⟨me_KN,F_Ring_root.2,F_Ring_root.1.kp⟩,me_Ring_lacking:=⟨me_Ring_lacking,F_Band_lacking.2,F_Band_lacking.1.kp⟩,n_Ring_own_text,n_Ring_own_kinds,ty_K8:=fun e=>.ins e ⟨pg_K8,hd_K8,po_K8,sa_K8⟩ ha_K8 ow_hn ow_tk mo_K8,fm_KJ:=F_Band_init.1,kp_KJ:=F_Band_init.1.kp,b_KJ:=F_Band_init.1.binds (by walk_at "b3"),fm_KE:=F_Band_kinds.1,kp_KE:=F_Band_kinds.1.kp,b_KE:=F_Band_kinds.1.binds (by walk_at "b1"),fm_KK:=F_Band_text.1,kp_KK:=F_Band_text.1.kp,b_KK:=F_Band_text.1.binds (by walk_at "b1"),fm_KF:=F_Band_words.1,kp_KF:=F_Band_words.1.kp,b_KF:=F_Band_words.1.binds (by walk_at "b2"),fm_KC:=F_Band_lacking.1,kp_KC:=F_Band_lacking.1.kp,b_KC:=F_Band_lacking.1.binds (by walk_at "b1"),fm_KM:=F_Ring_init.1,kp_KM:=F_Ring_init.1.kp,b_KM:=F_Ring_init.1.binds (by walk_at "b3"),fm_KA:=F_Ring_laid_out.1,kp_KA:=F_Ring_laid_out.1.kp,b_KA:=F_Ring_laid_out.1.binds (by walk_at "b2"),fm_KN:=F_Ring_root.1,kp_KN:=F_Ring_root.1.kp,b_KN:=F_Ring_root.1.binds (by walk_at "b1"),fm_KH:=F_Ring_reach.1,kp_KH:=F_Ring_reach.1.kp,b_KH:=F_Ring_reach.1.binds (by walk_at "b1"),nd,z_len:=PySem.W.mg_none_of X G z_len,z_range:=PySem.W.mg_none_of X G z_range,z_isinstance:=PySem.W.mg_none_of X G z_isinstance,z_all:=PySem.W.mg_none_of X G z_all,z_min:=PySem.W.mg_none_of X G z_min,z_list:=PySem.W.mg_none_of X G z_list,z_tuple:=PySem.W.mg_none_of X G z_tuple,z_set:=PySem.W.mg_none_of X G z_set,z_sorted:=PySem.W.mg_none_of X G z_sorted,z_str:=PySem.W.mg_none_of X G z_str,z_int:=PySem.W.mg_none_of X G z_int,z_bool:=PySem.W.mg_none_of X G z_bool,z_ValueError:=PySem.W.mg_none_of X G z_ValueError,c_KB:=⟨_,PySem.W.mg_of X G c_KB⟩,c_KG:=⟨_,PySem.W.mg_of X G c_KG⟩,c_KD:=⟨_,PySem.W.mg_of X G c_KD⟩,bl:=fun s u=>.of_eq rfl }⟩
end Pk74
namespace Pk74
open PySem L2
def LET:List Nat:=[97,98,99,100,101,102,103,104,105,106,107,108,109,110,111,112,113,114,115,116,117,118,119,120,121,122]
def isk (l:List Nat):Bool:=decide (1≤l.length)&&decide (l.length≤4)&&(l.all fun c=>LET.contains c)&&decide (signs l=ZaQ (ddl (signs l)))
def isw (l m:List Nat)(most:Int):Bool:=decide ((l.length:Int)≤most)&&l.all fun c=>m.contains c
def Zdl:List Nat→List Nat→Bool
 | _,[]=>true
 | last,c::r=>decide (c∈LET)&&decide (last < [c])&&Zdl [c] r
def ZeT (l:List Nat):Bool:=decide (1≤l.length)&&decide (l.length≤4)&&Zdl [] l
theorem Ze8 {a b:Nat}:([a] < [b])↔a<b:=by
 constructor
 ·intro h;cases h with
  | rel h=>exact h
  | cons h=>cases h
 ·exact fun h=>List.Lex.rel h
theorem ZeU:∀(l:List Nat) (d:Nat),Zdl [d] l=true↔(∀c∈l,c∈LET)∧(d::l).Pairwise (· < ·)
 | [],d=>by simp[Zdl]
 | c::r,d=>by
  rw[Zdl,Bool.and_eq_true,Bool.and_eq_true,decide_eq_true_iff,decide_eq_true_iff,Ze8,ZeU r c]
  simp only[List.pairwise_cons,List.mem_cons,forall_eq_or_imp]
  constructor
  ·rintro⟨⟨h1,h2⟩,h3,h4,h5⟩
   exact⟨⟨h1,h3⟩,⟨h2,fun x hx=>Nat.lt_trans h2 (h4 x hx)⟩,h4,h5⟩
  ·rintro⟨⟨h1,h3⟩,⟨h2,_⟩,h4,h5⟩
   exact⟨⟨h1,h2⟩,h3,h4,h5⟩
theorem Zcr (l:List Nat):Zdl [] l=true↔(∀c∈l,c∈LET)∧l.Pairwise (· < ·):=by
 cases l with
 | nil=>simp[Zdl]
 | cons c r=>
  rw[Zdl,Bool.and_eq_true,Bool.and_eq_true,decide_eq_true_iff,decide_eq_true_iff,ZeU r c]
  simp only[List.mem_cons,forall_eq_or_imp]
  constructor
  ·rintro⟨⟨h1,_⟩,h3,h4⟩;exact⟨⟨h1,h3⟩,h4⟩
  ·rintro⟨⟨h1,h3⟩,h4⟩;exact⟨⟨h1,by simp⟩,h3,h4⟩
theorem Zdd:∀(ls acc:List (List Nat)),(acc++ls).Nodup→ls.foldl addT acc=acc++ls
 | [],acc,_=>by simp
 | x::ls,acc,h=>by
  have hx:¬x∈acc:=by
   rw[List.nodup_append]at h
   exact fun hm=>h.2.2 x hm x List.mem_cons_self rfl
  rw[List.foldl_cons,addT,if_neg hx,Zdd ls (acc++[x]) (by simpa using h)]
  simp
theorem Zez {l:List Nat}(h:l.Pairwise (· < ·)):(signs l).Nodup:=by
 unfold signs List.Nodup
 rw[List.pairwise_map]
 exact h.imp fun hab e=>by injection e with e;omega
theorem ZgP (ls:List (List Nat)):(ddl ls).Nodup:=by rw[←ZcU];exact Zb3 _
theorem Zfq (l:List Nat):signs l=ZaQ (ddl (signs l))↔l.Pairwise (· < ·):=by
 constructor
 ·intro e
  have h1:(signs l).Pairwise (fun a b=>leT a b=true):=by rw[e];exact ZaY _
  have h2:(signs l).Nodup:=by rw[e];exact(ZaE _).nodup_iff.mpr (ZgP _)
  unfold signs at h1
  unfold signs List.Nodup at h2
  rw[List.pairwise_map]at h1 h2
  refine(h1.and h2).imp ?_
  rintro a b ⟨x,y⟩
  have y':a≠b:=fun e=>y (by rw[e])
  have x':¬([b] < [a]):=by simpa [leT] using x
  rw[Ze8]at x'
  omega
 ·intro h
  have e:ddl (signs l)=signs l:=by unfold ddl;rw[Zdd _ _ (by simpa using Zez h)];simp
  rw[e]
  refine Zb7 (List.Perm.refl _) ?_
  unfold signs
  rw[List.pairwise_map]
  refine h.imp fun {a b} hab=>?_
  have:¬([b] < [a]):=by rw[Ze8];omega
  simpa [leT] using this
theorem Zd8 (l:List Nat):isk l=ZeT l:=by
 have h1:(l.all fun c=>LET.contains c)=decide (∀c∈l,c∈LET):=by
  rw[Bool.eq_iff_iff,List.all_eq_true,decide_eq_true_iff]
  simp
 have h2:decide (signs l=ZaQ (ddl (signs l)))=decide (l.Pairwise (· < ·)):=by rw[Bool.eq_iff_iff,decide_eq_true_iff,decide_eq_true_iff,Zfq]
 have h3:Zdl [] l=(decide (∀c∈l,c∈LET)&&decide (l.Pairwise (· < ·))):=by rw[Bool.eq_iff_iff,Bool.and_eq_true,decide_eq_true_iff,decide_eq_true_iff,Zcr]
 unfold isk ZeT
 rw[h1,h2,h3,Bool.and_assoc]
theorem all_range (l m:List Nat):((List.range l.length).map (fun i=>decide (l.getD i 0∈m))).all id=l.all fun c=>m.contains c:=by
 rw[Bool.eq_iff_iff,List.all_eq_true,List.all_eq_true]
 constructor
 ·intro h c hc
  obtain⟨i,hi,rfl⟩:=List.mem_iff_getElem.mp hc
  have:=h _ (List.mem_map_of_mem (List.mem_range.mpr hi))
  simpa [List.getD_eq_getElem?_getD,List.getElem?_eq_getElem hi] using this
 ·intro h b hb
  obtain⟨i,hi,rfl⟩:=List.mem_map.mp hb
  have hi:=List.mem_range.mp hi
  have:=h _ (List.getElem_mem hi)
  simpa [List.getD_eq_getElem?_getD,List.getElem?_eq_getElem hi] using this
def cell (ns:List Int)(k:Int):Int:=ns.getD k.toNat 0
theorem Zi1 {ns:List Int}{k:Int}(h0:0≤k)(h1:k<ns.length):atI (ns.map V.int) k=some (.int (cell ns k)):=by
 have hk:k.toNat<ns.length:=by omega
 unfold atI ixN cell
 rw[List.length_map,if_pos h0,if_pos h1,Option.bind_some,List.getElem?_map,List.getD_eq_getElem?_getD,List.getElem?_eq_getElem hk]
 rfl
theorem Za2 {K:PySem.W.Frag}{H:Hp}{l:List Nat}(h:l.length≤1000):LenV K (tx l) H l.length:=by
 have e:(⟨l.toArray⟩:Str).length=l.length:=by simp[Str.length]
 have:l.length≤sizeLine:=Nat.le_trans h (by rw[sizeLine_eq];decide)
 exact⟨by rw[e];exact this,e.symm⟩
theorem cm {x y m:Int}(h:0<m)(h2:m≤2 ^ 64):CMul (x % m) y:=.inl ⟨by have:=Int.emod_nonneg x (show m≠0 by omega);omega,by have:=Int.emod_lt_of_pos x h;omega⟩
theorem Zfb {K:PySem.W.Frag}{t:Value}:PySem.W.kitOne K t t=some true:=by unfold PySem.W.kitOne;simp
theorem Zeo {α:Type}{xs:List α}{i:Int}(h0:0≤i)(h1:i<xs.length):∃v,atI xs i=some v∧v∈xs:=by
 have hi:i.toNat<xs.length:=by omega
 refine⟨xs[i.toNat],?_,List.getElem_mem hi⟩
 unfold atI ixN
 rw[if_pos h0,if_pos h1,Option.bind_some,List.getElem?_eq_getElem hi]
theorem Zbx (xs:List (List Nat)):(xs.map tx).all Za7=true:=by
 rw[List.all_eq_true]
 intro v hv
 obtain⟨x,_,rfl⟩:=List.mem_map.mp hv
 rfl
theorem same_upd3 {H H2:Hp}{e:Addr}{o':HO}(s:Same H H2)(h:H e=none):Same H (upd H2 e o'):=fun b u hb=>by
 have:b≠e:=fun z=>by rw[z,h]at hb;cases hb
 rw[Zau this];exact s _ _ hb
theorem Ze7:∀ {ls:List (List Nat)},(∀m∈ls,m.length=1)→ls.flatten.length=ls.length
 | [],_=>rfl
 | m::ls,h=>by
  rw[List.flatten_cons,List.length_append,Ze7 fun x hx=>h x (List.mem_cons_of_mem _ hx),h m List.mem_cons_self,List.length_cons]
  omega
theorem ZgF {ls:List (List Nat)}{k:Nat}(h:k<ls.length):(ls.map tx).getD k V.non=tx (ls.getD k []):=by
 rw[List.getD_eq_getElem?_getD,List.getElem?_map,List.getD_eq_getElem?_getD,List.getElem?_eq_getElem h]
 rfl
theorem Zgz {x:List Nat}{ls:List (List Nat)}:inV (tx x) (ls.map tx)=decide (x∈ls):=by
 unfold inV
 rw[Bool.eq_iff_iff,List.any_eq_true,decide_eq_true_iff]
 constructor
 ·rintro⟨y,hy,e⟩
  obtain⟨l,hl,rfl⟩:=List.mem_map.mp hy
  rw[Zh1,decide_eq_true_iff,ZbQ]at e
  rw[←e];exact hl
 ·intro h
  exact⟨tx x,List.mem_map_of_mem h,by rw[Zh1];exact decide_eq_true rfl⟩
theorem ZgL:∀(xs ys:List (List Nat)),deqs ((xs.map tx).map DT.f) ((ys.map tx).map DT.f)=decide (xs=ys)
 | [],[]=>by unfold deqs;rfl
 | [],y::ys=>by simp only[List.map_cons,List.map_nil];unfold deqs;rfl
 | x::xs,[]=>by simp only[List.map_cons,List.map_nil];unfold deqs;rfl
 | x::xs,y::ys=>by
  simp only[List.map_cons]
  unfold deqs
  rw[ZgL xs ys]
  have e:deq (DT.f (tx x)) (DT.f (tx y))=decide (x=y):=by
   unfold deq
   rw[←Zcg]
   show ((⟨x.toArray⟩:Str) == ⟨y.toArray⟩)=_
   rw[Bool.eq_iff_iff,beq_iff_eq,decide_eq_true_iff]
   exact⟨fun h=>by unfold tx;rw[h],fun h=>by unfold tx at h;injection h⟩
  rw[e,Bool.eq_iff_iff,Bool.and_eq_true,decide_eq_true_iff,decide_eq_true_iff,decide_eq_true_iff,List.cons.injEq]
theorem ZgI {K:PySem.W.Frag}{H:Hp}{Q:VK}{a b:Addr}{xs ys:List (List Nat)}(h1:SqL K H a (xs.map tx))(h2:SqL K H b (ys.map tx))(q:Q (.bl (decide (xs=ys))) H):rEqD K false (.ref a) (.ref b) H Q:=
 .inr ⟨_,_,datL h1 (Zbx _),datL h2 (Zbx _),fun z=>Bool.false_ne_true z.1,(ownL h1 (Zbx _)).2.2,by
  unfold deq
  rw[ZgL]
  exact q⟩
theorem ZiB:V.str (Str.ofString "abcdefghijklmnopqrstuvwxyz")=tx LET:=congrArg V.str (by decide +kernel)
theorem ZiS (l:List Nat):(ddl (signs l)).length≤l.length:=by
 have:∀(ls acc:List (List Nat)),(ls.foldl addT acc).length≤acc.length+ls.length:=by
  intro ls
  induction ls with
  | nil=>intro acc;simp
  | cons x ls ih=>
   intro acc
   rw[List.foldl_cons]
   refine Nat.le_trans (ih _) ?_
   unfold addT
   split<;>simp<;>omega
 have h:=this (signs l) []
 unfold ddl
 unfold signs at h ⊢
 simpa using h
theorem signs_length (l:List Nat):(signs l).length=l.length:=by unfold signs;rw[List.length_map]
theorem Zj4 {K:PySem.W.Frag}:PySem.W.kitOne K (.type "int") (.type "bool")=some false:=by rfl
def flds (l m:List Nat):List (Str×V):=putF "own_kinds" (tx m) (putF "own_text" (tx l) [])
theorem kt:¬(("own_text":Str)="own_kinds"):=by decide +kernel
theorem Zbb {l m:List Nat}:(flds l m).lookup ("own_text":Str)=some (tx l):=by unfold flds;rw[ZaX,if_neg kt,ZaX,if_pos rfl]
theorem Zde {l m:List Nat}:(flds l m).lookup ("own_kinds":Str)=some (tx m):=by unfold flds;rw[ZaX,if_pos rfl]
theorem ZaR {l m:List Nat} {x:Str} (h1:¬x="own_text") (h2:¬x="own_kinds"):(flds l m).lookup x=none:=by
 unfold flds
 rw[ZaX,if_neg h2,ZaX,if_neg h1]
 rfl
def RingAt (C:Addr)(H:Hp)(p:Addr)(l m:List Nat):Prop:=∃dx,H p=some (.ins C dx (flds l m))
theorem RingAt.same {C:Addr}{H H':Hp}{p:Addr}{l m:List Nat}(r:RingAt C H p l m)(s:Same H H'):RingAt C H' p l m:=let ⟨dx,h⟩:=r;⟨dx,s _ _ h⟩
structure RingOk (l m:List Nat):Prop where
 k:isk m=true
 m1:1≤m.length
 m4:m.length≤4
 l1:1≤l.length
 l20:l.length≤20
 mem:∀x∈l,x∈m
theorem RingOk.root {l m:List Nat}(h:RingOk l m):RingOk (rootOf l) m:=⟨h.k,h.m1,h.m4,by rw[ZaU h.l1];exact(ZaD h.l1).1,by rw[ZaU h.l1];exact Nat.le_trans (ZaD h.l1).2.1 h.l20,fun x hx=>h.mem x (ZeZ hx)⟩
theorem ZiT (ls:List (List Nat)):(ddl ls).length≤ls.length:=by
 have:∀(ls acc:List (List Nat)),(ls.foldl addT acc).length≤acc.length+ls.length:=by
  intro ls
  induction ls with
  | nil=>intro acc;simp
  | cons x ls ih=>
   intro acc
   rw[List.foldl_cons]
   refine Nat.le_trans (ih _) ?_
   unfold addT
   split<;>simp<;>omega
 simpa [ddl] using this ls []
theorem Zkb {l m:List Nat}(h:RingOk l m):isw l m 20=true:=by
 have h2:=h.l20
 unfold isw
 rw[Bool.and_eq_true,decide_eq_true_iff,List.all_eq_true]
 exact⟨by omega,fun x hx=>by simpa using h.mem x hx⟩
theorem ZfQ {l:List Nat}(h:1≤l.length):decide (tx l=tx [])=false:=by
 rw[Zcg,decide_eq_false_iff_not]
 intro e
 rw[e]at h
 simp at h
theorem ZhW:∀k,k<26→LET[k]?=some (97+k):=by decide
theorem ZiC {c:Nat}(h1:97≤c)(h2:c≤122):c∈LET:=by
 have:=ZhW (c-97) (by omega)
 have e:97+(c-97)=c:=by omega
 rw[e]at this
 exact List.mem_of_getElem? this
theorem ZhX {m:List Nat}(h1:1≤m.length)(h4:m.length≤4)(hm:∀c∈m,c∈LET)(hp:m.Pairwise (· < ·)):isk m=true:=by
 rw[Zd8]
 unfold ZeT
 rw[(Zcr m).mpr ⟨hm,hp⟩]
 simp[h1,h4]
theorem ZiU (l:List Nat){i:Int}(h:0≤i):cut l none (some i)=l.take i.toNat:=by
 obtain⟨k,rfl⟩:∃k:Nat,i=(k:Int):=⟨i.toNat,by omega⟩
 rw[Zbk,Int.toNat_natCast]
theorem ZiW (l:List Nat){i:Int}(h:0≤i):cut l (some i) none=l.drop i.toNat:=by
 obtain⟨k,rfl⟩:∃k:Nat,i=(k:Int):=⟨i.toNat,by omega⟩
 rw[Za5,Int.toNat_natCast]
theorem iteT' {p q:Prop}[Decidable True](h:p):if True then p else q:=by rw[if_pos True.intro];exact h
theorem Zi7 {c:TT}{tb:TS}{D:Ends}{σ:St}{H:Hp}(Pv:St→Prop)(μ:St→Nat)(h0:Pv σ)
  (hs:∀σ,Pv σ→∃b:Bool,(∀Q:Bool→Hp→Prop,Q b H→c σ H Q)∧if b=true then tb { D with nx:=fun σ' H'=>(H'=H∧Pv σ')∧μ σ'<μ σ,ct:=fun σ' H'=>(H'=H∧Pv σ')∧μ σ'<μ σ,bk:=D.nx } σ H else D.nx σ H):WhileRun c tb D σ H:=by
 refine⟨fun m σ H'=>m=μ σ∧H'=H∧Pv σ,⟨_,rfl,rfl,h0⟩,?_⟩
 rintro m σ _ ⟨rfl,rfl,p⟩
 obtain⟨b,hc,hb⟩:=hs σ p
 refine hc _ ?_
 cases b with
 | true=>exact⟨_,fun σ' H' ⟨p',l⟩=>⟨_,l,rfl,p'⟩,hb⟩
 | false=>exact hb
theorem ZbU (l:List Nat)(n:Int):(repT l n).length=n.toNat*l.length:=by unfold repT;simp
theorem Zhb {l:List Nat}{n:Int}{x:Nat}(h:x∈repT l n):x∈l:=by
 unfold repT at h
 obtain⟨y,hy,hx⟩:=List.mem_flatten.mp h
 rw[(List.mem_replicate.mp hy).2]at hx
 exact hx
theorem Zb2 {n s:Nat}(hs:1≤s):(n:Int)/(s:Nat)≤(n:Int):=by
 have e:(n:Int)/(s:Nat)=((n/s:Nat):Int):=(Int.natCast_ediv _ _).symm
 have:=Nat.div_le_self n s
 rw[e]
 omega
theorem ZdD {n s:Nat}:0≤(n:Int)/(s:Nat):=by
 have e:(n:Int)/(s:Nat)=((n/s:Nat):Int):=(Int.natCast_ediv _ _).symm
 rw[e]
 exact Int.natCast_nonneg _
theorem fill {f m:List Nat}{n:Nat}{e:Int}(hn:0<n)(hf:f.length=n)(hm:∀x∈f,x∈m)(he:1≤e):(cut (repT (cut f none (some e)) (n:Nat)) none (some ((n:Nat):Int))).length=n∧∀x∈cut (repT (cut f none (some e)) (n:Nat)) none (some ((n:Nat):Int)),x∈m:=by
 rw[Zbk,ZiU f (by omega)]
 have ht:1≤(f.take e.toNat).length:=by rw[List.length_take];omega
 have hl:n≤(repT (f.take e.toNat) (n:Nat)).length:=by
  rw[ZbU,Int.toNat_natCast]
  exact Nat.le_mul_of_pos_right n ht
 refine⟨by rw[List.length_take];omega,fun x hx=>?_⟩
 exact hm x (List.mem_of_mem_take (Zhb (List.mem_of_mem_take hx)))
theorem put1 {f m:List Nat}{n c:Nat}{i:Int}(hf:f.length=n)(hm:∀x∈f,x∈m)(hc:c∈m)(h0:0≤i)(h1:i<(n:Nat)):(cut f none (some i)++[c]++cut f (some (i+1)) none).length=n∧∀x∈cut f none (some i)++[c]++cut f (some (i+1)) none,x∈m:=by
 rw[ZiU f h0,ZiW f (by omega)]
 refine⟨by rw[List.length_append,List.length_append,List.length_take,List.length_drop,List.length_singleton];omega,fun x hx=>?_⟩
 rcases List.mem_append.mp hx with hx | hx
 ·rcases List.mem_append.mp hx with hx | hx
  ·exact hm x (List.mem_of_mem_take hx)
  ·rw[List.mem_singleton.mp hx];exact hc
 ·exact hm x (List.mem_of_mem_drop hx)
theorem ZlF {K:PySem.W.Frag}{H:Hp}{Q:VK}{x:List Nat}(h:Q (.bl false) H):rEqD K true (tx x) (tx x) H Q:=.inl ⟨rfl,by rw[if_pos rfl,decide_eq_true rfl];exact h⟩
theorem ZiR {K:PySem.W.Frag}{H:Hp}{Q:VK}{x:List Nat}(h:Q (.bl true) H):rEqD K false (tx x) (tx x) H Q:=.inl ⟨rfl,by rw[if_neg Bool.false_ne_true,decide_eq_true rfl];exact h⟩
structure KOk (m:List Nat):Prop where
 k:isk m=true
 m1:1≤m.length
 m4:m.length≤4
theorem RingOk.kok {l m:List Nat}(h:RingOk l m):KOk m:=⟨h.k,h.m1,h.m4⟩
theorem Zkc {l:List Nat}(h:isk l=true):1≤l.length∧l.length≤4∧l.Pairwise (· < ·):=by
 rw[Zd8]at h
 unfold ZeT at h
 rw[Bool.and_eq_true,Bool.and_eq_true,decide_eq_true_eq,decide_eq_true_eq]at h
 exact⟨h.1.1,h.1.2,((Zcr l).mp h.2).2⟩
theorem Zf9 {H:Hp}{e:Addr}{o o':HO}(h:H e=none):Same H (upd (upd H e o) e o'):=fun b u hb=>by
 have:b≠e:=fun z=>by rw[z,h]at hb;cases hb
 rw[Zau this,Zau this];exact hb
theorem atI0 {α:Type}{x:α}{xs:List α}:atI (x::xs) 0=some x:=by
 unfold atI ixN
 rw[if_pos (Int.le_refl _),if_pos (by rw[List.length_cons];omega)]
 rfl
theorem Zhq {K:PySem.W.Frag}{H:Hp}{Q:VK}{b:Bool}(q:Q (.bl false) H):rEqD K true (.bl b) (.bl b) H Q:=.inl ⟨rfl,by rw[if_pos rfl,decide_eq_true rfl];exact q⟩
structure StripOk (l m:List Nat):Prop where
 k:isk m=true
 m1:1≤m.length
 m4:m.length≤4
 l40:l.length≤40
 mem:∀x∈l,x∈m
theorem ZiV (w:List Nat):cut w (some 1) none=w.tail:=by
 have:=Za5 w 1
 rw[List.drop_one]at this
 exact this
theorem Zc8:∀ {ls:List (List Nat)},(∀m∈ls,m.length=1)→ls=signs ls.flatten
 | [],_=>rfl
 | m::ls,h=>by
  have h1:=h m List.mem_cons_self
  match m,h1 with
  | [c],_=>
   have ih:=Zc8 (ls:=ls) fun x hx=>h x (List.mem_cons_of_mem _ hx)
   rw[List.flatten_cons]
   show [c]::ls=[c]::signs ls.flatten
   rw[←ih]
theorem ZfG {F:List Nat}(nd:F.Nodup)(sub:∀c∈F,c∈LET)(h1:1≤F.length)(h4:F.length≤4):isk (ZaQ (signs F)).flatten=true∧(ZaQ (signs F)).flatten.length=F.length:=by
 have pm:=ZaE (signs F)
 have one:∀m∈ZaQ (signs F),m.length=1:=fun m hm=>by
  obtain⟨c,_,rfl⟩:=List.mem_map.mp (pm.mem_iff.mp hm)
  rfl
 have e:=Zc8 one
 have hl:(ZaQ (signs F)).flatten.length=F.length:=by rw[Ze7 one,pm.length_eq];unfold signs;rw[List.length_map]
 have so:=ZaY (signs F)
 have nd2:(ZaQ (signs F)).Nodup:=pm.nodup_iff.mpr (by
  unfold signs List.Nodup
  rw[List.pairwise_map]
  exact nd.imp fun hab z=>hab (by injection z))
 have mem:∀c∈(ZaQ (signs F)).flatten,c∈LET:=fun c hc=>by
  obtain⟨x,hx,hcx⟩:=List.mem_flatten.mp hc
  obtain⟨d,hd,rfl⟩:=List.mem_map.mp (pm.mem_iff.mp hx)
  rw[List.mem_singleton.mp hcx]
  exact sub d hd
 generalize (ZaQ (signs F)).flatten=S at e hl mem
 rw[e]at so nd2
 unfold signs at so nd2
 unfold List.Nodup at nd2
 rw[List.pairwise_map]at so nd2
 refine⟨ZhX (by omega) (by omega) mem ((so.and nd2).imp ?_),hl⟩
 rintro a b ⟨x,y⟩
 have y':a≠b:=fun z=>y (by rw[z])
 have x':¬([b] < [a]):=by simpa [leT] using x
 rw[Ze8]at x'
 omega
theorem ZdN {α:Type}{l:List α}{i:Nat}{x:α}(h:l[i]?=some x):l.take (i+1)=l.take i++[x]:=by rw[List.take_succ,h];rfl
theorem ZbT (l:List Nat)(n:Nat):(Zab l n).length≤l.length:=by
 unfold Zab
 rw[(ZaE _).length_eq]
 refine Nat.le_trans (ZiT _) ?_
 unfold Zbn
 rw[List.length_map,List.length_range]
 exact Nat.le_refl _
theorem ZfC {l m:List Nat}{i:Nat}(hm:m.length≤4)(hl:l.length≤20):(Zba l m i).length≤i*80:=by
 have h1:∀k,(Zdw (Zab l k) (Zab l (k+1)) m).length≤80:=fun k=>Nat.le_trans (Zgu _ _ _) (Nat.le_trans (Nat.mul_le_mul (ZbT l k) hm) (by omega))
 have h2:=Zbq (f:=fun k=>Zdw (Zab l k) (Zab l (k+1)) m) h1 (List.range i)
 rw[List.length_range]at h2
 exact h2
inductive DueR (l l2:List Nat):List V→Prop
 | same {k:Nat}:k<Zae l→TurnAt l l2 k→(∀j,j<k→¬TurnAt l l2 j)→DueR l l2 [tx [115,97,109,101],tx (rootOf l),.int (k:Nat)]
 | unlike {n:Nat} {w:List Nat}:(¬ ∃k,k<Zae l∧TurnAt l l2 k)→FirstW l l2 n w→DueR l l2 [tx [117,110,108,105,107,101],tx w]
theorem ZeF {a b:List (List Nat)}{x:List Nat}:x∈xorT a b↔(x∈a∧x∉b)∨(x∈b∧x∉a):=by
 unfold xorT
 rw[List.mem_append,List.mem_filter,List.mem_filter,decide_eq_true_iff,decide_eq_true_iff]
theorem ZdE (ls:List (List Nat)):(ddl ls).length≤ls.length:=by rw[←ZcU];exact ZgQ _
theorem ZeX (l:List Nat)(n:Nat):(Zab l n).length≤l.length:=by
 unfold Zab Zbn
 rw[(ZaE _).length_eq]
 refine Nat.le_trans (ZdE _) ?_
 rw[List.length_map,List.length_range];exact Nat.le_refl _
theorem ZfL (a b:List (List Nat)):(xorT a b).length≤a.length+b.length:=by
 unfold xorT
 rw[List.length_append]
 have:=List.length_filter_le (fun x=>decide (x∉b)) a
 have:=List.length_filter_le (fun x=>decide (x∉a)) b
 omega
theorem ZgX {a b:List (List Nat)}(h:a≠b)(ha:a.Pairwise (· < ·))(hb:b.Pairwise (· < ·)):∃w r,ZaQ (xorT (ddl a) (ddl b))=w::r∧w∈xorT a b∧∀x∈xorT a b,¬x<w:=by
 have mm:∀x,x∈ZaQ (xorT (ddl a) (ddl b))↔x∈xorT a b:=fun x=>by
  rw[(ZaE _).mem_iff,ZeF,ZeF,ZcF,ZcF]
 have pw:=ZaY (xorT (ddl a) (ddl b))
 cases e:ZaQ (xorT (ddl a) (ddl b)) with
 | nil=>
  exfalso
  refine ZhL h ha hb (List.eq_nil_iff_forall_not_mem.mpr fun x hx=>?_)
  have:=(mm x).mpr hx
  rw[e]at this
  cases this
 | cons w r=>
  rw[e]at pw mm
  refine⟨w,r,rfl,(mm w).mp List.mem_cons_self,fun x hx lt=>?_⟩
  rcases List.mem_cons.mp ((mm x).mpr hx) with z | z
  ·rw[z]at lt;exact List.lt_irrefl _ lt
  ·have:=(List.pairwise_cons.mp pw).1 x z
   unfold leT at this
   rw[decide_eq_true lt]at this
   cases this
theorem ZjK {CX:CXT}{P:Program}{w:World}{K:PySem.W.Frag}{mg:Str→Option Value}{base:Heap}{N:List Str}{qual:Str}{scope:Scope}{f:Addr}{cd:Value}{A:Around}{outer:List Env}{s:Shared}{H:Hp}{E:XK}:
  PassesOwn (model (cxOf CX P w K mg base N qual scope f cd A outer s H E).prog (cxOf CX P w K mg base N qual scope f cd A outer s H E).w) (cxOf CX P w K mg base N qual scope f cd A outer s H E).A (cxOf CX P w K mg base N qual scope f cd A outer s H E).env (cxOf CX P w K mg base N qual scope f cd A outer s H E).xe:=PassesOwn.leaving
theorem Ziw {K:PySem.W.Frag}{H:Hp}{Q:VK}{x y:List Nat}(h:∀b:Bool,(b=true↔x≠y)→Q (.bl b) H):rEqD K true (tx x) (tx y) H Q:=.inl ⟨rfl,by
 rw[if_pos rfl]
 refine h _ ?_
 rw[Bool.not_eq_true',decide_eq_false_iff_not,ZbQ]⟩
theorem ZeK {K:PySem.W.Frag}{H:Hp}{Q:VK}{x y:List Nat}(h:∀b:Bool,(b=true↔x=y)→Q (.bl b) H):rEqD K false (tx x) (tx y) H Q:=.inl ⟨rfl,by
 rw[if_neg Bool.false_ne_true]
 refine h _ ?_
 rw[decide_eq_true_iff,ZbQ]⟩
theorem ZcR {K:PySem.W.Frag}{H:Hp}{Q:VK}{x y:Int}(h:∀b:Bool,(b=true↔x=y)→Q (.bl b) H):rEqD K false (.int x) (.int y) H Q:=.inl ⟨rfl,by
 rw[if_neg Bool.false_ne_true]
 refine h _ ?_
 rw[decide_eq_true_iff]
 exact⟨fun e=>by injection e,fun e=>by rw[e]⟩⟩
theorem Zef {α β:Type}(d:α)(P:α→Bool)(g:α→β)(l:List α):((List.range l.length).filter fun i=>P (l.getD i d)).map (fun i=>g (l.getD i d))=(l.filter P).map g:=by
 have e:l=(List.range l.length).map fun i=>l.getD i d:=by
  apply List.ext_getElem (by simp)
  intro i h1 h2
  simp[List.getD_eq_getElem?_getD,h1]
 conv=>rhs;rw[e]
 rw[List.filter_map,List.map_map]
 rfl
theorem Zix {K:PySem.W.Frag}{H:Hp}{Q:VK}{a b:Addr}{L:List (List Nat)}(h1:SqL K H a (L.map tx))(h2:SqL K H b [])(q:Q (.bl (!L.isEmpty)) H):rEqD K true (.ref a) (.ref b) H Q:=
 .inr ⟨_,_,datL h1 (Zbx L),datL h2 rfl,fun z=>Bool.false_ne_true z.1,(ownL h1 (Zbx L)).2.2,by
  cases L with
  | nil=>exact q
  | cons x y=>exact q⟩
theorem DueR.one {l l2:List Nat}{d d':List V}(h:DueR l l2 d)(h':DueR l l2 d'):d=d':=by
 cases h with
 | @same k hk t mn=>
  cases h' with
  | @same k' hk' t' mn'=>
   have:k=k':=by
    rcases Nat.lt_trichotomy k k' with z | z | z
    ·exact absurd t (mn' k z)
    ·exact z
    ·exact absurd t' (mn k' z)
   rw[this]
  | unlike n _=>exact absurd ⟨k,hk,t⟩ n
 | unlike n f=>
  cases h' with
  | @same k' hk' t' _=>exact absurd ⟨k',hk',t'⟩ n
  | unlike _ f'=>rw[(f.one f').2]
theorem ZfD {F m:List Nat}{c:Nat}(nd:F.Nodup)(sub:∀x∈F,x∈LET)(h1:1≤F.length)(h4:F.length≤4)(hc:c∈F)(hm:c∉m):KOk (ZaQ (signs F)).flatten∧(ZaQ (signs F)).flatten≠m:=by
 obtain⟨a,b⟩:=ZfG nd sub h1 h4
 refine⟨⟨a,by omega,by omega⟩,fun e=>hm ?_⟩
 rw[←e,List.mem_flatten]
 refine⟨[c],(ZaE _).mem_iff.mpr ?_,by simp⟩
 unfold signs
 exact List.mem_map.mpr ⟨c,hc,rfl⟩
theorem KOk.let {m:List Nat}(h:KOk m):∀c∈m,c∈LET:=fun c hc=>by
 have hk:=h.k
 unfold isk at hk
 simp only[Bool.and_eq_true]at hk
 have:=List.all_eq_true.mp hk.1.2 c hc
 simpa using this
theorem ZdQ {m:List Nat}(h:m.length≤4):([97,122,98,121,99]:List Nat).filter (fun c=>!decide (c∈m))≠[]:=by
 intro e
 have all:∀c∈([97,122,98,121,99]:List Nat),c∈m:=fun c hc=>by
  have:=List.filter_eq_nil_iff.mp e c hc
  simpa using this
 have:=ZcD _ m (by decide) all
 simp at this
 omega
theorem Zf4 (F:List Nat):((ZaQ (signs F)).map List.length).sum=F.length:=by
 rw[((ZaE (signs F)).map _).sum_nat]
 unfold signs
 rw[List.map_map]
 induction F with
 | nil=>rfl
 | cons x F ih=>rw[List.map_cons,List.sum_cons,ih,List.length_cons];simp;omega
def ZkI (K:PySem.W.Frag)(a:Ad):Sp:=fun vs H Q _=>∃l m,vs=[tx l,tx m]∧l.length≤1000∧∀H2,Same H H2→Q (.bl (l.all fun c=>m.contains c)) H2
def ZkH (K:PySem.W.Frag)(a:Ad):Sp:=fun vs H Q _=>∃l,vs=[tx l]∧l.length≤1000∧∀H2,Same H H2→Q (.bl (isk l)) H2
def ZkF (K:PySem.W.Frag)(a:Ad):Sp:=fun vs H Q _=>∃l m most,vs=[tx l,tx m,.int most]∧l.length≤1000∧∀H2,Same H H2→Q (.bl (isw l m most)) H2
def ZkN (K:PySem.W.Frag)(a:Ad):Sp:=fun vs H Q _=>∃l,vs=[tx l]∧l.length≤1000∧isk l=true∧∀H2,Same H H2→Q .non H2
def ZkM (K:PySem.W.Frag)(a:Ad):Sp:=fun vs H Q _=>∃(p dx:Addr) (l m:List Nat),vs=[.ref p,tx l,tx m]∧H p=some (.ins a.c_K8 dx [])∧∀H2,RingAt a.c_K8 H2 p l m→(∀b o,H b=some o→b≠p→H2 b=some o)→Q .non H2
def ZkK (K:PySem.W.Frag)(a:Ad):Sp:=fun vs H Q _=>∃(p dx:Addr) (l m:List Nat),vs=[.ref p,tx l,tx m]∧H p=some (.ins a.c_K8 dx [])∧RingOk l m∧∀H2,RingAt a.c_K8 H2 p l m→(∀b o,H b=some o→b≠p→H2 b=some o)→Q .non H2
def ZkQ (K:PySem.W.Frag)(a:Ad):Sp:=fun vs H Q _=>∃(p:Addr) (l m:List Nat),vs=[.ref p]∧RingAt a.c_K8 H p l m∧Q (tx m) H
def ZkL (K:PySem.W.Frag)(a:Ad):Sp:=fun vs H Q _=>∃(p:Addr) (l m:List Nat),vs=[.ref p]∧RingAt a.c_K8 H p l m∧Q (tx l) H
def ZkS (K:PySem.W.Frag)(a:Ad):Sp:=fun vs H Q _=>∃(p:Addr) (l m:List Nat) (n:Nat),vs=[.ref p,.int n]∧RingAt a.c_K8 H p l m∧RingOk l m∧n≤60∧Q (tx (laidOut l n)) H
def ZkJ (K:PySem.W.Frag)(a:Ad):Sp:=fun vs H Q _=>∃(p:Addr) (l m:List Nat),vs=[.ref p]∧RingAt a.c_K8 H p l m∧RingOk l m∧Q (tx (rootOf l)) H
def ZkO (K:PySem.W.Frag)(a:Ad):Sp:=fun vs H Q _=>∃(p:Addr) (l m:List Nat),vs=[.ref p]∧RingAt a.c_K8 H p l m∧RingOk l m∧Q (.int ((rootOf l).length:Nat)) H
def ZkY (K:PySem.W.Frag)(a:Ad):Sp:=fun vs H Q _=>∃(b:Addr) (ns:List Int) (k:Int),vs=[.ref b,.int k]∧SqL K H b (ns.map V.int)∧0≤k∧k≤1000∧∀r:Int,Q (.int r) H
def ZkU (K:PySem.W.Frag)(a:Ad):Sp:=fun vs H Q _=>∃i:Int,vs=[.int i]∧Q (.bl true) H
def ZkW (K:PySem.W.Frag)(a:Ad):Sp:=fun vs H Q _=>∃c k,vs=[.int c,.int k]∧∀r:Int,0≤r→Q (.int r) H
def ZkC (K:PySem.W.Frag)(a:Ad):Sp:=fun vs H Q _=>∃c,vs=[.int c]∧∀m,isk m=true→1≤m.length→m.length≤4→Q (tx m) H
def ZkE (K:PySem.W.Frag)(a:Ad):Sp:=fun vs H Q _=>∃(w c:Int) (m:List Nat) (n:Nat),vs=[.int w,.int c,tx m,.int n]∧1≤m.length∧m.length≤4∧n≤60∧∀(l:List Nat) H2,l.length=n→(∀x∈l,x∈m)→Same H H2→Q (tx l) H2
def Zjn (K:PySem.W.Frag)(a:Ad):Sp:=fun vs H Q _=>∃(b:Addr) (ns:List Int) (k:Int) (m:List Nat),vs=[.ref b,.int k,tx m]∧SqL K H b (ns.map V.int)∧0≤k∧k≤900∧1≤m.length∧m.length≤4∧∀(l:List Nat) H2,1≤l.length→l.length≤20→(∀x∈l,x∈m)→Same H H2→Q (tx l) H2
def ZkX (K:PySem.W.Frag)(a:Ad):Sp:=fun vs H Q _=>∃l,vs=[tx l]∧1≤l.length∧l.length≤20∧Q (tx (rootOf l)) H
def Zkz (K:PySem.W.Frag)(a:Ad):Sp:=fun vs H Q _=>∃(l:List Nat) (n:Nat),vs=[tx l,.int n]∧l.length≤200∧n≤l.length+1∧l.length<n+63∧∀p H2,Same H H2→H p=none→H2 p=some (.lst ((wordsOf l n).map tx))→Q (.ref p) H2
def ZkP (K:PySem.W.Frag)(a:Ad):Sp:=fun vs H Q _=>∃(p:Addr) (l m:List Nat) (n:Nat),vs=[.ref p,.int n]∧RingAt a.c_K8 H p l m∧RingOk l m∧n≤60∧∀q H2,Same H H2→H q=none→H2 q=some (.lst ((Zab l n).map tx))→Q (.ref q) H2
def ZkZ (K:PySem.W.Frag)(a:Ad):Sp:=fun vs H Q _=>∃(b1 b2:Addr) (sh st:List (List Nat)) (m:List Nat),vs=[.ref b1,.ref b2,tx m]∧H b1=some (.lst (sh.map tx))∧H b2=some (.lst (st.map tx))∧sh.length≤100∧m.length≤4∧(∀w∈sh,w.length≤100)∧∀p H2,Same H H2→H p=none→H2 p=some (.lst ((Zdw sh st m).map tx))→Q (.ref p) H2
def ZkR (K:PySem.W.Frag)(a:Ad):Sp:=fun vs H Q _=>∃(p:Addr) (l m:List Nat),vs=[.ref p]∧RingAt a.c_K8 H p l m∧RingOk l m∧∀q H2,Same H H2→H q=none→H2 q=some (.lst ((Zba l m (Zae l)).map tx))→Q (.ref q) H2
def ZkB (K:PySem.W.Frag)(a:Ad):Sp:=fun vs H Q _=>∃(l:List Nat) (n:Nat),vs=[tx l,.int n]∧1≤l.length∧l.length≤20∧n≤60∧∀p H2,Same H H2→H p=none→H2 p=some (.lst ((Zab l n).map tx))→Q (.ref p) H2
def ZkG (K:PySem.W.Frag)(a:Ad):Sp:=fun vs H Q _=>∃(p p2:Addr) (l m l2 m2:List Nat),vs=[.ref p,.ref p2]∧RingAt a.c_K8 H p l m∧RingAt a.c_K8 H p2 l2 m2∧RingOk l m∧RingOk l2 m2∧(¬ ∃k,k<Zae l∧TurnAt l l2 k)∧∀n w H2,FirstW l l2 n w→Same H H2→Q (tx w) H2
def ZkT (K:PySem.W.Frag)(a:Ad):Sp:=fun vs H Q E=>∃(p p2:Addr) (l m l2 m2:List Nat),vs=[.ref p,.ref p2]∧RingAt a.c_K8 H p l m∧RingAt a.c_K8 H p2 l2 m2∧RingOk l m∧RingOk l2 m2∧((m=m2∧∀t d H2,Same H H2→DueR l l2 d→H2 t=some (.tup d)→Q (.ref t) H2)∨(m≠m2∧∀e H2,Same H H2→XAny H2 e a.c_KU []→E (.ref a.c_KU) (some e) H2))
def Zky (K:PySem.W.Frag)(a:Ad):Sp:=fun vs H Q _=>∃(b:Addr) (ns:List Int) (l m:List Nat),vs=[.ref b,tx l,tx m]∧SqL K H b (ns.map V.int)∧RingOk l m∧∀(l2:List Nat) H2,RingOk l2 m→Same H H2→Q (tx l2) H2
def Zjm (K:PySem.W.Frag)(a:Ad):Sp:=fun vs H Q _=>∃(l l2:List Nat),vs=[tx l,tx l2]∧1≤l.length∧l.length≤20∧1≤l2.length∧l2.length≤20∧∀t d H2,Same H H2→DueR l l2 d→H2 t=some (.tup d)→Q (.ref t) H2
def ZkV (K:PySem.W.Frag)(a:Ad):Sp:=fun vs H Q _=>∃(p p2 t:Addr) (l m l2:List Nat) (d:List V),vs=[.ref p,.ref p2,.ref t]∧RingAt a.c_K8 H p l m∧RingAt a.c_K8 H p2 l2 m∧RingOk l m∧RingOk l2 m∧DueR l l2 d∧SqT K H t d∧∀H2,Same H H2→Q (.bl true) H2
def ZkD (K:PySem.W.Frag)(a:Ad):Sp:=fun vs H Q _=>∃(p p2:Addr) (l m l2 m2:List Nat),vs=[.ref p,.ref p2]∧RingAt a.c_K8 H p l m∧RingAt a.c_K8 H p2 l2 m2∧RingOk l m∧RingOk l2 m2∧m≠m2∧∀H2,Same H H2→Q (.bl true) H2
def ZkA (K:PySem.W.Frag)(a:Ad):Sp:=fun vs H Q _=>∃(m:List Nat) (c:Int),vs=[tx m,.int c]∧KOk m∧∀(m2:List Nat) H2,KOk m2→m2≠m→Same H H2→Q (tx m2) H2
def spLaw (K:PySem.W.Frag):Sp:=fun vs H Q _=>∃(b:Addr) (ns:List Int),vs=[.ref b]∧SqL K H b (ns.map V.int)∧ns.length≤63∧∀H2,Q (.bl true) H2
section
variable {P:Program}{w:World}{K:PySem.W.Frag}{mg:Str→Option Value}{base:Heap}{a:Ad}
local macro_rules | `(tactic| walk_at "r0") => `(tactic| simp only [tSeq, tAsg, tPar, tOp, tUn, tVar, tC, ZcQ, gNil, ZlH, tRet, Zku, tIfS, ZgZ, tB, tNot, tAnd, tOr, Zjl, tOrV, Zje, tIf, Zji, tNil, Zf0, Zlh, Zle, Zlg, Zlf, Zlj, Zg1, tCB, Zkt, Zld, Zjc, tBM, tBM0, tSl, Zg0, tNoPart, tNext, L2.start, cxK, bxK, cxPr, cxWo, suxK, Zkx, Zkw, ZhN, tTry, ZhO, Zjt, ZhP, sIfx, hAs, Zkh, hNone, unE, Zjd, Zkv, ZfZ, Zli, ZjA, Zkg, Zkf, ZiH, iTup, ZlG, Zke, gTup, pick, Option.bind_some, Option.bind_none, Option.join_some, Option.join_none, List.map_cons, List.map_nil, List.length_cons, List.length_nil, Nat.zero_add, Nat.reduceAdd, Nat.reduceSub, List.replicate_succ, List.replicate_zero, List.cons_append, List.nil_append, List.append_nil, List.getElem?_cons_zero, List.getElem?_cons_succ, List.set_cons_zero, List.set_cons_succ, q_I, q_I0, q_U, q_T, q_b, q_var, q_var', iZip, Zin, Zjh, Zib, tFld, sFld, sNo, tAug, Zjk, Zju, Zjf, Zjg, Zjj, tRev])
local macro_rules | `(tactic| walk_at "r1") => do
 let some t ←Lean.Macro.expandMacro? (←`(tactic| walk_at "r0")) | Lean.Macro.throwUnsupported
 match (⟨t⟩:Lean.TSyntax `tactic) with
 | `(tactic| simp only[$l,*])=>let d:=⟨l.elemsAndSeps⟩;`(tactic| dsimp only[$d,*])
 | _=>Lean.Macro.throwUnsupported
local macro_rules | `(tactic| walk_at "rd") => `(tactic| first | (walk_at "r1"; try walk_at "r0") | walk_at "r0")
local macro_rules | `(tactic| walk_at "sc") => `(tactic| exact ⟨rfl, rfl, rfl, by decide +kernel, rfl, by decide +kernel, by decide +kernel⟩)
local macro_rules | `(tactic| walk_at "rd?") => `(tactic| (try walk_at "rd"))
theorem Zk3:FnScope ["text","letters"] ["text","letters"] (Zah s_KO):=by walk_at "sc"
theorem ZjT (T:Txt K mg a):FnOk P w K mg base CX0 1 a.f_KO a.d_KO ["text","letters"] (ZkI K a):=by
 refine T.f_KO.ok Zk3 (fun vs H Q E h=>?_) (fun cdv A outer s H vs Q E hr h=>?_)
 ·obtain⟨_,_,rfl,_⟩:=h;rfl
 ·have hu64:=hr.units
  obtain⟨l,m,rfl,hl,q⟩:=h
  refine⟨_,(Zag (Zar (Zak (ZgV rfl) rfl T.z_all Zkp (Zaa (ZcA (N:=["sign","letters"]) (ix:=[none,some 1]) rfl (ZbG rfl) rfl (ZeC (pv 0)) (fun _ _ _ _=>(ZaV (i:=0) (show (["sign","letters"]:List Str).Nodup from by decide +kernel) rfl (Or.inl rfl) (Or.inr rfl))) (fun _ _ _ _=>Zdr) (fun _ _ _ _=>(Zbu Zfu (pv 0) (pv 1) rfl))) Zad)))),?_⟩
  walk_at "rd"
  refine⟨l,rfl,CompRun.text (fun _=>true) (fun i=>.bl (decide (l.getD i 0∈m))) hl ?_ ?_ ?_⟩
  ·intro i H1 Q1 hi s1 q1;exact q1 H1 (Same.refl _)
  ·intro i H1 Q1 hi _ s1 q1
   walk_at "rd"
   exact⟨_,m,rfl,rfl,q1 H1 (Same.refl _)⟩
  ·intro p H1 s1 n1 l1
   refine⟨p,(List.range l.length).map (fun i=>decide (l.getD i 0∈m)),rfl,?_,?_⟩
   ·rw[l1,filter_all,List.map_map];rfl
   ·rw[all_range];exact q H1 s1
theorem Zk0:FnScope ["text","length"] ["text","length"] (Zah s_KY):=by walk_at "sc"
theorem Zlr (T:Txt K mg a):FnOk P w K mg base CX0 1 a.f_KY a.d_KY ["text","length"] (Zkz K a):=by
 refine T.f_KY.ok Zk0 (fun vs H Q E h=>?_) (fun cdv A outer s H vs Q E hr h=>?_)
 ·obtain⟨_,_,rfl,_⟩:=h;rfl
 ·have hu64:=hr.units
  obtain⟨l,n,rfl,hl,hn,h63,q⟩:=h
  refine⟨_,(Zag (Zar (Zak (Za0 rfl) rfl T.z_sorted Zbl (Zaa (Zbi (Zbc rfl) rfl T.z_set Zej (Zaa (ZcA (N:=["start","length","text"]) (ix:=[none,some 1,some 0]) rfl (ZbG rfl) rfl (Zbh rfl T.z_range (Zaa (Zai ZaK (Zai ZhU (Zak (Zan (K:=K) rfl) rfl T.z_len ZaO (Zaa (pv 0) Zad)) (pv 1)) Zaf) Zad)) (fun _ _ _ _=>(ZaV (i:=0) (show (["start","length","text"]:List Str).Nodup from by decide +kernel) rfl (Or.inl rfl) (Or.inr rfl))) (fun _ _ _ _=>Zdr) (fun _ _ _ _=>(Zaq Za1 (pv 2) (Zat (pv 0)) (Zat (Zai ZaK (pv 0) (pv 1)))))) Zad)) Zad)))),?_⟩
  walk_at "rd"
  have sz:l.length≤sizeLine:=Nat.le_trans hl (by rw[sizeLine_eq];decide)
  have ec:((l.length:Int)-(n:Nat)+1).toNat=l.length+1-n:=by omega
  refine⟨_,_,rfl,Za2 (by omega),_,rfl,by omega,by omega,?_⟩
  rw[ec]
  refine CompRun.rangeA (fun i=>tx ((l.drop i).take n)) (by omega) ?_ ?_
  ·intro i H1 Q1 hi s1 q1
   walk_at "rd"
   refine⟨_,rfl,_,rfl,l,rfl,sz,?_⟩
   have e1:(0+(i:Int))=((i:Nat):Int):=by omega
   have e2:((i:Nat):Int)+(n:Nat)=((i+n:Nat):Int):=by omega
   rw[e1,e2,ZgS]
   have e3:i+n-i=n:=by omega
   rw[e3]
   exact q1 H1 (Same.refl _)
  ·intro p H1 s1 n1 l1
   refine⟨(List.range (l.length+1-n)).map (fun i=>(l.drop i).take n),by simp;omega,.inr ⟨p,rfl,.mk (by rw[l1,List.map_map];rfl)⟩,fun p2 n2=>⟨p2,_,rfl,ZaH,?_,NewL.of fun p3 H3 s3 n3 l3=>q p3 H3 (s1.trans ((ZaP n2).trans s3)) ((s1.trans (ZaP n2)).free n3) l3⟩⟩
   refine Nat.lt_of_le_of_lt (ZiT _) ?_
   rw[List.length_map,List.length_range]
   omega
theorem Zf8:FnScope ["shorter","standing","kinds","found","head","letter","word"] ["shorter","standing","kinds"] (Zah s_K0):=by walk_at "sc"
theorem ZlE (T:Txt K mg a):FnOk P w K mg base CX0 1 a.f_K0 a.d_K0 ["shorter","standing","kinds"] (ZkZ K a):=by
 refine T.f_K0.ok Zf8 (fun vs H Q E h=>?_) (fun cdv A outer s H vs Q E hr h=>?_)
 ·obtain⟨_,_,_,_,_,rfl,_⟩:=h;rfl
 ·have hu64:=hr.units
  obtain⟨b1,b2,sh,st,m,rfl,hb1,hb2,hsh,hm,hw,q⟩:=h
  refine⟨_,(Zac (Zal (i:=3) Zf8.nd rfl (Or.inl rfl) (Zgh Zad))
   (Zac (ZbV PassesOwn.never rfl (Zds (K:=K) rfl (pv 0)) (ZaV (i:=4) Zf8.nd rfl (Or.inl rfl))
   (Zag (ZbV PassesOwn.never rfl (ZeC (pv 2)) (ZaV (i:=5) Zf8.nd rfl (Or.inl rfl))
   (Zac (Zal (i:=6) Zf8.nd rfl (Or.inl rfl) (Zai Zaz (pv 4) (pv 5)))
   (Zag (Za6 (PW.pt (Ze3 (Zas (Zc7 (K:=K) rfl) (Zaq Za1 (pv 6) (Zat Zaf) ZaB) (pv 0) rfl) (Zdo (Zas (Zbp (K:=K) rfl) (pv 6) (pv 1) rfl)))) (Zag (Zdp (Zhj PySem.F.plainAttrs_list PySem.F.slot_list_append PySem.F.type_list_append Zd3 (pv 3) (Zaa (pv 6) Zad)))) Zay))))))
   (Zag (Zar (pv 3))))),?_⟩
  walk_at "rd"
  refine⟨Nat.zero_le _,NewL.of fun pf H1 s1 nf lf=>⟨b1,rfl,⟨_,.mk (s1 _ _ hb1)⟩,ForRun.list (xs:=sh.map tx) (fun i σ H'=>∃v4 v5 v6,σ=[some (.ref b1),some (.ref b2),some (tx m),some (.ref pf),v4,v5,v6]∧Same H H'∧H' pf=some (.lst (((sh.take i).flatMap (ZeH sh st m)).map tx))) ⟨_,_,_,rfl,s1,lf⟩ (fun i σ H' _ ⟨_,_,_,_,s',_⟩=>.mk (s' _ _ hb1)) ?_ ?_⟩⟩
  ·rintro i x σ H2 hx ⟨v4,v5,v6,rfl,s2,l2⟩
   obtain⟨h,hh,rfl⟩:∃h,sh[i]?=some h∧x=tx h:=by
    rw[List.getElem?_map]at hx
    cases e:sh[i]? with
    | none=>rw[e]at hx;cases hx
    | some h=>rw[e]at hx;exact⟨h,rfl,(Option.some.inj hx).symm⟩
   have hw1:=hw h (List.mem_of_getElem? hh)
   have fl:=Zbq (f:=ZeH sh st m) (b:=4) (fun x=>Nat.le_trans (Zd7 _ _ _ _) hm) (sh.take i)
   have tl:(sh.take i).length≤100:=by rw[List.length_take];omega
   walk_at "rd"
   refine⟨m,rfl,ForRun.text (fun j σ H'=>∃v5 v6,σ=[some (.ref b1),some (.ref b2),some (tx m),some (.ref pf),some (tx h),v5,v6]∧Same H H'∧H' pf=some (.lst (((sh.take i).flatMap (ZeH sh st m)++((m.take j).filter (Zb0 sh st h)).map (fun c=>h++[c])).map tx))) ⟨_,_,rfl,s2,by simpa using l2⟩ ?_ ?_⟩
   ·rintro j c σ H3 hc ⟨v5,v6,rfl,s3,l3⟩
    have fj:=List.length_filter_le (Zb0 sh st h) (m.take j)
    rw[List.length_take]at fj
    have fe:(m.take (j+1)).filter (Zb0 sh st h)=(m.take j).filter (Zb0 sh st h)++if Zb0 sh st h c=true then [c] else []:=by
     rw[ZdN hc,List.filter_append]
     congr 1
     by_cases z:Zb0 sh st h c=true
     ·rw[if_pos z,List.filter_cons_of_pos z];rfl
     ·rw[if_neg z,List.filter_cons_of_neg z];rfl
    rw[fe]
    walk_at "rd"
    refine⟨by rw[sizeLine_eq];omega,_,rfl,_,rfl,by rw[List.length_append,List.length_singleton,sizeLine_eq];omega,?_⟩
    rw[ZiV]
    refine⟨b1,_,rfl,.inl (.mk (s3 _ _ hb1)),rfl,Zbx _,_,rfl,?_⟩
    rw[if_neg Bool.false_ne_true,Zgz]
    by_cases t1:(h++[c]).tail∈sh
    ·rw[decide_eq_true t1]
     refine iteT ⟨b2,_,rfl,.inl (.mk (s3 _ _ hb2)),rfl,Zbx _,_,rfl,?_⟩
     rw[if_pos rfl,Zgz]
     by_cases t2:h++[c]∈st
     ·have e:¬Zb0 sh st h c=true:=by unfold Zb0;rw[decide_eq_true t2];simp
      rw[decide_eq_true t2,Bool.not_true,if_neg e,List.append_nil]
      exact iteF ⟨_,_,rfl,s3,l3⟩
     ·have e:Zb0 sh st h c=true:=by unfold Zb0;rw[decide_eq_true t1,decide_eq_false t2];rfl
      rw[decide_eq_false t2,Bool.not_false,if_pos e]
      refine iteT ⟨.inl ⟨rfl,_,.mk l3⟩,pf,_,_,rfl,rfl,l3,by rw[List.length_map,List.length_append,List.length_map,sizeLine_eq];omega,_,_,rfl,same_upd3 s3 nf,?_⟩
      rw[ZaH]
      simp
    ·have e:¬Zb0 sh st h c=true:=by unfold Zb0;rw[decide_eq_false t1];simp
     rw[decide_eq_false t1,if_neg e,List.append_nil]
     exact iteF (iteF ⟨_,_,rfl,s3,l3⟩)
   ·rintro σ H3 ⟨v5,v6,rfl,s3,l3⟩
    refine⟨_,_,_,rfl,s3,?_⟩
    rw[l3,ZdN hh,List.flatMap_append,List.flatMap_singleton,List.take_length]
    rfl
  ·rintro σ H2 ⟨v4,v5,v6,rfl,s2,l2⟩
   walk_at "rd"
   rw[List.length_map,List.take_length]at l2
   exact q pf H2 s2 nf l2
theorem Zjq:FnScope ["self","length","size"] ["self","length"] (Zah s_KA):=by walk_at "sc"
theorem ZlB (T:Txt K mg a):FnOk P w K mg base CX0 1 a.g_KA a.e_KA ["self","length"] (ZkS K a):=by
 refine T.fm_KA.ok Zjq (fun vs H Q E h=>?_) (fun cdv A outer s H vs Q E hr h=>?_)
 ·obtain⟨_,_,_,_,rfl,_⟩:=h;rfl
 ·have hu64:=hr.units
  obtain⟨p,l,m,n,rfl,hp,ok,hn,q⟩:=h
  refine⟨_,(Zac (Zal (i:=2) Zjq.nd rfl (Or.inl rfl) (Zak (Zan (K:=K) rfl) rfl T.z_len ZaO (Zaa (Zbo (K:=K) rfl (pv 0) rfl) Zad)))
   (Zag (Zar (Zaq Za1 (Zai Zbj (Zbo (K:=K) rfl (pv 0) rfl) (Zai ZaK (Zai ZaJ (pv 1) (pv 2)) Zaf)) ZaB (Zat (Zai ZhU (Zai ZaK (pv 2) (pv 1)) Zaf)))))),?_⟩
  obtain⟨dx,hp⟩:=hp
  have l1:=ok.l1
  have l20:=ok.l20
  have ds:=Zb2 (n:=n) l1
  have dp:=ZdD (n:=n) (s:=l.length)
  have gl:=ZbU l ((n:Int)/(l.length:Nat)+2)
  have gm:((n:Int)/(l.length:Nat)+2).toNat*l.length≤62*20:=Nat.mul_le_mul (by omega) l20
  walk_at "rd"
  refine⟨p,_,dx,_,_,rfl,hp,T.cl_K8,T.n_Ring_own_text,Zbb,_,_,rfl,Za2 (by omega),p,_,dx,_,_,rfl,hp,T.cl_K8,T.n_Ring_own_text,Zbb,⟨by omega,by omega⟩,l,_,rfl,rfl,by omega,by omega,by omega,_,rfl,_,rfl,by rw[sizeLine_eq];omega,?_⟩
  rw[ZiU _ (by omega)]
  have e:((l.length:Int)+(n:Nat)-1).toNat=l.length+n-1:=by omega
  rw[e]
  exact q
theorem Zla:FnScope ["self"] ["self"] (Zah s_KE):=by walk_at "sc"
theorem ZjV (T:Txt K mg a):FnOk P w K mg base CX0 1 a.g_KE a.e_KE ["self"] (ZkQ K a):=by
 refine T.fm_KE.ok Zla (fun vs H Q E h=>?_) (fun cdv A outer s H vs Q E hr h=>?_)
 ·obtain⟨_,_,_,rfl,_⟩:=h;rfl
 ·have hu64:=hr.units
  obtain⟨p,l,m,rfl,hp,q⟩:=h
  refine⟨_,(Zag (Zar (Zbo (K:=K) rfl (pv 0) rfl))),?_⟩
  obtain⟨dx,hp⟩:=hp
  walk_at "rd"
  exact⟨p,_,dx,_,_,rfl,hp,T.cl_K8,T.n_Ring_own_kinds,Zde,q⟩
theorem Zii:FnScope ["self","size"] ["self"] (Zah s_KN):=by walk_at "sc"
theorem Zit (T:Txt K mg a):FnOk P w K mg base CX0 1 a.g_KN a.e_KN ["self"] (ZkJ K a):=by
 refine T.fm_KN.ok Zii (fun vs H Q E h=>?_) (fun cdv A outer s H vs Q E hr h=>?_)
 ·obtain⟨_,_,_,rfl,_⟩:=h;rfl
 ·have hu64:=hr.units
  obtain⟨p,l,m,rfl,hp,ok,q⟩:=h
  refine⟨_,(Zac (Zal (i:=1) Zii.nd rfl (Or.inl rfl) Zaf)
   (Zac (Ze5 PassesOwn.never (Zas (ZcC (K:=K) rfl hu64) (Zai Zbj (Zaq Za1 (Zbo (K:=K) rfl (pv 0) rfl) ZaB (Zat (pv 1))) (Zai ZaJ (Zak (Zan (K:=K) rfl) rfl T.z_len ZaO (Zaa (Zbo (K:=K) rfl (pv 0) rfl) Zad)) (pv 1))) (Zbo (K:=K) rfl (pv 0) rfl) (ZaA _))
   (Zag (ZhS (i:=1) Zii.nd rfl (Or.inl rfl) Zaf ZhZ)))
   (Zag (Zar (Zaq Za1 (Zbo (K:=K) rfl (pv 0) rfl) ZaB (Zat (pv 1))))))),?_⟩
  obtain⟨dx,hp⟩:=hp
  have l1:=ok.l1
  have l20:=ok.l20
  have sz:l.length≤sizeLine:=by rw[sizeLine_eq];omega
  obtain⟨r1,r2,r3,r4⟩:=ZaD l1
  walk_at "rd"
  refine Zi7 (fun σ=>∃s:Nat,σ=[some (.ref p),some (.int (s:Nat))]∧1≤s∧s≤Zae l) (fun σ=>match σ with | [_,some (.int s)]=>l.length-s.toNat | _=>0) ⟨1,rfl,Nat.le_refl _,r1⟩ ?_
  rintro σ ⟨s_,rfl,hs,hr'⟩
  refine⟨!ZbO l s_,fun Q1 h1=>?_,?_⟩
  ·have ds:=Zb2 (n:=l.length) hs
   have dp:=ZdD (n:=l.length) (s:=s_)
   have c2:=ZbF l none (some (s_:Int))
   walk_at "rd"
   refine⟨p,_,dx,_,_,rfl,hp,T.cl_K8,T.n_Ring_own_text,Zbb,_,rfl,l,rfl,sz,p,_,dx,_,_,rfl,hp,T.cl_K8,T.n_Ring_own_text,Zbb,_,_,rfl,Za2 (by omega),⟨by omega,by omega⟩,_,_,rfl,rfl,by omega,by omega,by omega,p,_,dx,_,_,rfl,hp,T.cl_K8,T.n_Ring_own_text,Zbb,.inl ⟨rfl,_,rfl,?_⟩⟩
   rw[if_pos rfl,Zcg,Zbk]
   exact h1
  ·walk_at "rd"
   cases hb:ZbO l s_ with
   | false=>
    have hlt:s_<Zae l:=by
     rcases Nat.lt_or_ge s_ (Zae l) with h | h
     ·exact h
     ·have:s_=Zae l:=by omega
      rw[this,r3]at hb
      cases hb
    rw[Bool.not_false]
    exact iteT ⟨_,_,rfl,rfl,⟨rfl,s_+1,rfl,by omega,by omega⟩,by show l.length-(((s_:Nat):Int)+1).toNat<l.length-((s_:Nat):Int).toNat;omega⟩
   | true=>
    have heq:s_=Zae l:=by
     rcases Nat.lt_or_ge s_ (Zae l) with h | h
     ·rw[r4 s_ hs h]at hb
      cases hb
     ·omega
    rw[Bool.not_true]
    refine iteF ⟨p,_,dx,_,_,rfl,hp,T.cl_K8,T.n_Ring_own_text,Zbb,_,rfl,l,rfl,sz,?_⟩
    rw[Zbk,heq]
    exact q
theorem Zlc:FnScope ["_law_script","_law_k"] ["_law_script","_law_k"] (Zah s_K1):=by walk_at "sc"
theorem Zfx (T:Txt K mg a):FnOk P w K mg base CX0 1 a.f_K1 a.d_K1 ["_law_script","_law_k"] (ZkY K a):=by
 refine T.f_K1.ok Zlc (fun vs H Q E h=>?_) (fun cdv A outer s H vs Q E hr h=>?_)
 ·obtain⟨_,_,_,rfl,_⟩:=h;rfl
 ·have hu64:=hr.units
  obtain⟨b,ns,k,rfl,hS,hk,hk1,q⟩:=h
  refine⟨_,(Zac (Za6 (Zas Zhk (pv 1) (Zak (Zan (K:=K) rfl) rfl T.z_len ZaO (Zaa (pv 0) Zad)) (ZaA _)) (Zag (Zar (Zcj (Zdx (K:=K) rfl) (pv 0) (pv 1) (fun _ _=>rfl)))) Zay)
   (Zag (Zar Zaf))),?_⟩
  walk_at "rd"
  refine⟨_,_,rfl,.inl ⟨_,hS,rfl⟩,?_⟩
  rw[List.length_map]
  refine ite2 (fun h=>?_) (fun h=>?_)
  ·have h':k<ns.length:=of_decide_eq_true h
   exact⟨b,_,k,_,rfl,rfl,hS,Zi1 hk h',q _⟩
  ·exact q _
theorem Zlb:FnScope ["_law_thing"] ["_law_thing"] (Zah s_K6):=by walk_at "sc"
theorem ZlC (T:Txt K mg a):FnOk P w K mg base CX0 1 a.f_K6 a.d_K6 ["_law_thing"] (ZkU K a):=by
 refine T.f_K6.ok Zlb (fun vs H Q E h=>?_) (fun cdv A outer s H vs Q E hr h=>?_)
 ·obtain⟨_,rfl,_⟩:=h;rfl
 ·have hu64:=hr.units
  obtain⟨i,rfl,q⟩:=h
  refine⟨_,(Zag (Zar (ZdY (Zak (ZaZ (K:=K) rfl) rfl T.z_isinstance ZaS (Zaa (pv 0) (Zaa (ZcB (v:=.ty "int") rfl T.z_int Zko rfl) Zad))) (ZdW (ZjI (Zak (ZaZ (K:=K) rfl) rfl T.z_isinstance ZaS (Zaa (pv 0) (Zaa (ZcB (v:=.ty "bool") rfl T.z_bool ZiZ rfl) Zad)))))))),?_⟩
  walk_at "rd"
  exact⟨_,_,_,_,true,rfl,rfl,.ty (.pl (.int _)),Zfb,iteT ⟨_,_,_,_,false,rfl,rfl,.ty (.pl (.int _)),Zj4,q⟩⟩
theorem Zij:FnScope ["_law_cell_here","_law_k","_law_number"] ["_law_cell_here","_law_k"] (Zah s_K4):=by walk_at "sc"
theorem ZlD (T:Txt K mg a):FnOk P w K mg base CX0 1 a.f_K4 a.d_K4 ["_law_cell_here","_law_k"] (ZkW K a):=by
 refine T.f_K4.ok Zij (fun vs H Q E h=>?_) (fun cdv A outer s H vs Q E hr h=>?_)
 ·obtain⟨_,_,rfl,_⟩:=h;rfl
 ·have hu64:=hr.units
  obtain⟨c,k,rfl,q⟩:=h
  refine⟨_,(Zac (Zal (i:=2) Zij.nd rfl (Or.inl rfl) (Zai ZaI (Zai ZaK (Zai ZaK (Zai Zc6 (pv 0) Zaf) (Zai Zc6 (pv 1) Zaf)) Zaf) Zaf))
   (Zac (Zal (i:=2) Zij.nd rfl (Or.inl rfl) (Zai ZaI (Zai ZaK (Zai ZaK (Zai Zc6 (Zai ZaI (Zai Zc6 (pv 2) (pv 2)) Zaf) Zaf) (Zai Zc6 (pv 1) Zaf)) Zaf) Zaf))
   (Zag (Zar (Zai ZaI (Zai Zc6 (pv 2) (pv 2)) Zaf))))),?_⟩
  walk_at "rd"
  exact⟨.inr ⟨by decide,by decide⟩,.inr ⟨by decide,by decide⟩,by decide,cm (by decide) (by decide),by decide,.inr ⟨by decide,by decide⟩,.inr ⟨by decide,by decide⟩,by decide,cm (by decide) (by decide),by decide,q _ (Int.emod_nonneg _ (by decide))⟩
theorem ZdR:FnScope ["_law_cell_here","_law_letters_here","_law_at","_law_left","_law_k"] ["_law_cell_here"] (Zah s_KV):=by walk_at "sc"
theorem Zlt (T:Txt K mg a):FnOk P w K mg base CX0 1 a.f_KV a.d_KV ["_law_cell_here"] (ZkC K a):=by
 refine T.f_KV.ok ZdR (fun vs H Q E h=>?_) (fun cdv A outer s H vs Q E hr h=>?_)
 ·obtain⟨_,rfl,_⟩:=h;rfl
 ·have hu64:=hr.units
  obtain⟨c,rfl,q⟩:=h
  refine⟨_,(Zac (Zal (i:=1) ZdR.nd rfl (Or.inl rfl) (ZaW (l:=[]) (by decide +kernel)))
   (Zac (Zal (i:=2) ZdR.nd rfl (Or.inl rfl) (Zai ZaI (Zai ZaJ (pv 0) Zaf) Zaf))
   (Zac (Zal (i:=3) ZdR.nd rfl (Or.inl rfl) (Zai ZaJ (pv 0) Zaf))
   (Zac (ZbV PassesOwn.never rfl (Zbh rfl T.z_range (Zaa (Zai ZaK Zaf (Zai ZaI (pv 0) Zaf)) Zad)) (ZaV (i:=4) ZdR.nd rfl (Or.inl rfl))
   (Zac (Zal (i:=1) ZdR.nd rfl (Or.inl rfl) (Zai Zaz (pv 1) (Zcj ZfE (ZaW (l:=[97,98,99,100,101,102,103,104,105,106,107,108,109,110,111,112,113,114,115,116,117,118,119,120,121,122]) (by decide +kernel)) (pv 2) (fun _ _=>rfl))))
   (Zac (Zal (i:=2) ZdR.nd rfl (Or.inl rfl) (Zai ZaK (Zai ZaK (pv 2) Zaf) (Zai ZaI (pv 3) Zaf)))
   (Zag (Zal (i:=3) ZdR.nd rfl (Or.inl rfl) (Zai ZaJ (pv 3) Zaf))))))
   (Zag (Zar (pv 1))))))),?_⟩
  walk_at "rd"
  have b1:=Int.emod_nonneg c (show (4:Int)≠0 by decide)
  have b2:=Int.emod_lt_of_pos c (show (0:Int)<4 by decide)
  generalize c % 4=c4 at b1 b2
  refine⟨⟨by decide,by decide⟩,by decide,⟨by decide,by decide⟩,by decide,_,rfl,by omega,by omega,ForRun.range (fun i σ H'=>H'=H∧∃(l:List Nat) (at_ le:Int) (v4:Option V),σ=[some (.int c),some (tx l),some (.int at_),some (.int le),v4]∧l.length=i∧0≤at_∧at_≤7+5*i∧(∀x∈l,97≤x∧(x:Int)<97+at_)∧(∀x∈l,x≤122)∧l.Pairwise (· < ·)) ⟨rfl,[],_,_,none,rfl,rfl,by omega,by omega,by simp,by simp,List.Pairwise.nil⟩ ?_ ?_⟩
  ·rintro i σ H1 hi ⟨rfl,l,at_,le,v4,rfl,hl,h0,h7,hx,hy,hp⟩
   have hi4:i<4:=by omega
   have hk:at_.toNat<26:=by omega
   walk_at "rd"
   refine⟨LET,_,97+at_.toNat,rfl,rfl,by rw[sizeLine_eq];decide,?_,by rw[sizeLine_eq];omega,by decide,⟨by decide,by decide⟩,by trivial,l++[97+at_.toNat],_,_,_,rfl,by simp[hl],by omega,by omega,?_,?_,?_⟩
   ·unfold atI ixN
    rw[if_pos h0,if_pos (show at_<((LET.length:Nat):Int) by show at_<26;omega),Option.bind_some,ZhW _ hk]
   ·intro x hm
    rcases List.mem_append.mp hm with hm | hm
    ·have:=hx x hm
     omega
    ·rw[List.mem_singleton.mp hm]
     omega
   ·intro x hm
    rcases List.mem_append.mp hm with hm | hm
    ·exact hy x hm
    ·rw[List.mem_singleton.mp hm]
     omega
   ·rw[List.pairwise_append]
    refine⟨hp,List.pairwise_singleton _ _,fun x hm y hy=>?_⟩
    rw[List.mem_singleton.mp hy]
    have:=hx x hm
    omega
  ·rintro σ H1 ⟨rfl,l,at_,le,v4,rfl,hl,h0,h7,hx,hy,hp⟩
   walk_at "rd"
   exact q l (ZhX (by omega) (by omega) (fun x hm=>ZiC (hx x hm).1 (hy x hm)) hp) (by omega) (by omega)
theorem Zjp:FnScope ["_law_text","_law_length","_law_going"] ["_law_text","_law_length"] (Zah s_KW):=by walk_at "sc"
theorem ZjR (T:Txt K mg a):FnOk P w K mg base CX0 1 a.f_KW a.d_KW ["_law_text","_law_length"] (ZkB K a):=by
 refine T.f_KW.ok Zjp (fun vs H Q E h=>?_) (fun cdv A outer s H vs Q E hr h=>?_)
 ·obtain⟨_,_,rfl,_⟩:=h;rfl
 ·have hu64:=hr.units
  obtain⟨l,n,rfl,h1,h20,hn,q⟩:=h
  refine⟨_,(Zac (Zal (i:=2) Zjp.nd rfl (Or.inr rfl) (Zai Zbj (pv 0) (Zai ZaK (Zai ZaJ (pv 1) (Zak (Zan (K:=K) rfl) rfl T.z_len ZaO (Zaa (pv 0) Zad))) Zaf)))
   (Zag (Zar (Zak (Za0 rfl) rfl T.z_sorted Zbl (Zaa (Zbi (Zbc rfl) rfl T.z_set Zej (Zaa (ZcA (N:=["_law_start","_law_going","_law_length"]) (ix:=[none,some 2,some 1]) rfl (ZbG rfl) rfl (Zbh rfl T.z_range (Zaa (Zak (Zan (K:=K) rfl) rfl T.z_len ZaO (Zaa (pv 0) Zad)) Zad)) (fun _ _ _ _=>(ZaV (i:=0) (show (["_law_start","_law_going","_law_length"]:List Str).Nodup from by decide +kernel) rfl (Or.inl rfl) (Or.inr rfl))) (fun _ _ _ _=>Zdr) (fun _ _ _ _=>(Zaq Za1 (pv 1) (Zat (pv 0)) (Zat (Zai ZaK (pv 0) (pv 2)))))) Zad)) Zad))))),?_⟩
  walk_at "rd"
  have ds:=Zb2 (n:=n) h1
  have dp:=ZdD (n:=n) (s:=l.length)
  have gl:=ZbU l ((n:Int)/(l.length:Nat)+2)
  have gm:((n:Int)/(l.length:Nat)+2).toNat*l.length≤62*20:=Nat.mul_le_mul (by omega) h20
  refine⟨_,_,rfl,Za2 (by omega),⟨by omega,by omega⟩,l,_,rfl,rfl,by omega,by omega,by omega,_,_,rfl,Za2 (by omega),_,rfl,by omega,by omega,?_⟩
  rw[Int.toNat_natCast]
  refine CompRun.rangeA (fun i=>tx (((repT l ((n:Int)/(l.length:Nat)+2)).drop i).take n)) (by omega) ?_ ?_
  ·intro i H1 Q1 hi s1 q1
   walk_at "rd"
   refine⟨_,rfl,_,rfl,_,rfl,by rw[sizeLine_eq];omega,?_⟩
   have e1:(0+(i:Int))=((i:Nat):Int):=by omega
   have e2:((i:Nat):Int)+(n:Nat)=((i+n:Nat):Int):=by omega
   rw[e1,e2,ZgS]
   have e3:i+n-i=n:=by omega
   rw[e3]
   exact q1 H1 (Same.refl _)
  ·intro p H1 s1 n1 l1
   refine⟨(List.range l.length).map (fun i=>((repT l ((n:Int)/(l.length:Nat)+2)).drop i).take n),by simp;omega,.inr ⟨p,rfl,.mk (by rw[l1,List.map_map];rfl)⟩,fun p2 n2=>⟨p2,_,rfl,ZaH,?_,NewL.of fun p3 H3 s3 n3 l3=>q p3 H3 (s1.trans ((ZaP n2).trans s3)) ((s1.trans (ZaP n2)).free n3) (by rw[l3,Zeq h1])⟩⟩
   refine Nat.lt_of_le_of_lt (ZiT _) ?_
   rw[List.length_map,List.length_range]
   omega
theorem Zjs:FnScope ["_law_text","_law_size"] ["_law_text"] (Zah s_K3):=by walk_at "sc"
theorem Zhm (T:Txt K mg a):FnOk P w K mg base CX0 1 a.f_K3 a.d_K3 ["_law_text"] (ZkX K a):=by
 refine T.f_K3.ok Zjs (fun vs H Q E h=>?_) (fun cdv A outer s H vs Q E hr h=>?_)
 ·obtain⟨_,rfl,_⟩:=h;rfl
 ·have hu64:=hr.units
  obtain⟨l,rfl,h1,h20,q⟩:=h
  refine⟨_,(Zac (ZbV PassesOwn.never rfl (Zcz rfl T.z_range (Zaa Zaf (Zaa (Zak (Zan (K:=K) rfl) rfl T.z_len ZaO (Zaa (pv 0) Zad)) Zad))) (ZaV (i:=1) Zjs.nd rfl (Or.inl rfl))
   (Zag (Za6 (PW.pt (Ze3 (Zas (ZaG (K:=K) rfl hu64) (Zai ZaI (Zak (Zan (K:=K) rfl) rfl T.z_len ZaO (Zaa (pv 0) Zad)) (pv 1)) Zaf (ZaA _)) (Zdo (Zas (ZaG (K:=K) rfl hu64) (Zai Zbj (Zaq Za1 (pv 0) ZaB (Zat (pv 1))) (Zai ZaJ (Zak (Zan (K:=K) rfl) rfl T.z_len ZaO (Zaa (pv 0) Zad)) (pv 1))) (pv 0) (ZaA _))))) (Zag (Zar (Zaq Za1 (pv 0) ZaB (Zat (pv 1))))) Zay)))
   (Zag (Zar (pv 0)))),?_⟩
  walk_at "rd"
  obtain⟨r1,r2,r3,r4⟩:=ZaD h1
  have sz:l.length≤sizeLine:=by rw[sizeLine_eq];omega
  refine⟨_,_,rfl,Za2 (by omega),_,_,rfl,⟨by omega,by omega,by omega,by omega⟩,ForRun.range (fun i σ H'=>H'=H∧∃v1,σ=[some (tx l),v1]∧∀s,1≤s→s<i+1→ZbO l s=false) ⟨rfl,_,rfl,fun s a b=>by omega⟩ ?_ ?_⟩
  ·rintro i σ H1 hi ⟨rfl,v1,rfl,hno⟩
   have hs:i+1<l.length:=by omega
   have e1:(1+(i:Int))=((i+1:Nat):Int):=by omega
   rw[e1]
   walk_at "rd"
   have ds:=Zb2 (n:=l.length) (show 1≤i+1 by omega)
   have dp:=ZdD (n:=l.length) (s:=i+1)
   have c2:=ZbF l none (some ((i+1:Nat):Int))
   refine⟨_,_,rfl,Za2 (by omega),by omega,.inl ⟨rfl,_,rfl,ite2 (fun h=>?_) (fun h=>iteF ?_)⟩⟩
   ·refine⟨_,rfl,l,rfl,sz,_,_,rfl,Za2 (by omega),⟨by omega,by omega⟩,_,_,rfl,rfl,dp,by omega,by omega,.inl ⟨rfl,_,rfl,?_⟩⟩
    rw[if_neg Bool.false_ne_true,Zcg,Zbk]
    show if ZbO l (i+1)=true then _ else _
    refine ite2 (fun h2=>?_) (fun h2=>?_)
    ·have e:Zae l=i+1:=ZdS h1 (by omega) h2 (by omega) fun s a b=>hno s a b
     refine⟨_,rfl,l,rfl,sz,?_⟩
     rw[Zbk,←e]
     exact q
    ·refine⟨rfl,_,rfl,fun s a b=>?_⟩
     by_cases e:s=i+1
     ·rw[e];exact Bool.eq_false_iff.mpr h2
     ·exact hno s a (by omega)
   ·refine⟨rfl,_,rfl,fun s a b=>?_⟩
    by_cases e:s=i+1
    ·subst e
     cases hx:ZbO l (i+1) with
     | false=>rfl
     | true=>
      have hd:=((Zdt a (by omega)).mp hx).1
      have h0:((l.length:Nat):Int) % ((i+1:Nat):Int)=0:=Int.emod_eq_zero_of_dvd (Int.natCast_dvd_natCast.mpr hd)
      rw[h0]at h
      exact absurd rfl h
    ·exact hno s a (by omega)
  ·rintro σ H1 ⟨rfl,v1,rfl,hno⟩
   walk_at "rd"
   have e:Zae l=l.length:=by
    rcases Nat.lt_or_ge (Zae l) l.length with h | h
    ·rw[hno _ r1 (by omega)]at r3;cases r3
    ·omega
   have e2:rootOf l=l:=by unfold rootOf;rw[e,List.take_length]
   rw[e2]at q
   exact q
theorem Zig:FnScope ["_law_kinds_here","_law_cell_here","_law_some","_law_other"] ["_law_kinds_here","_law_cell_here"] (Zah s_KX):=by walk_at "sc"
theorem Zls (T:Txt K mg a):FnOk P w K mg base CX0 1 a.f_KX a.d_KX ["_law_kinds_here","_law_cell_here"] (ZkA K a):=by
 refine T.f_KX.ok Zig (fun vs H Q E h=>?_) (fun cdv A outer s H vs Q E hr h=>?_)
 ·obtain⟨_,_,rfl,_⟩:=h;rfl
 ·have hu64:=hr.units
  obtain⟨m,c,rfl,ok,q⟩:=h
  refine⟨_,(Zac (Zio (i:=2) (N:=["_law_letter","_law_kinds_here"]) (ix:=[none,some 0]) rfl Zig.nd rfl rfl rfl (ZbG rfl) rfl (ZeC (ZaW (l:=[97,122,98,121,99]) (by decide +kernel))) (fun _ _ _ _=>(ZaV (i:=0) (show (["_law_letter","_law_kinds_here"]:List Str).Nodup from by decide +kernel) rfl (Or.inl rfl) (Or.inr rfl))) (fun _ _ _ _=>(Zdq (Zas Zdu (pv 0) (pv 1) rfl))) (fun _ _ _ _=>(pv 0)))
   (Zaj (Zac (Zal (i:=3) Zig.nd rfl (Or.inl rfl) (Zcj (Zdx (K:=K) rfl) (pv 2) (Zai ZaI (pv 1) (Zak (Zan (K:=K) rfl) rfl T.z_len ZaO (Zaa (pv 2) Zad))) (fun _ _=>rfl)))
   (Zaj (Zac (Za6 (Zas Zhk (Zak (Zan (K:=K) rfl) rfl T.z_len ZaO (Zaa (pv 0) Zad)) Zaf (ZaA _)) (Zag (Zar (Zhj PySem.F.plainAttrs_str PySem.F.slot_str_join PySem.F.type_str_join Zgn (ZaW (l:=[]) (by decide +kernel)) (Zaa (Zak (Zch rfl) rfl T.z_sorted Zbl (Zaa (Zai Zaz (pv 0) (pv 3)) Zad)) Zad)))) Zay)
   (Zaj (Zag (Zar (Zhj PySem.F.plainAttrs_str PySem.F.slot_str_join PySem.F.type_str_join Zgn (ZaW (l:=[]) (by decide +kernel)) (Zaa (Zak (Zch rfl) rfl T.z_sorted Zbl (Zaa (Zai Zaz (Zaq Za1 (pv 0) (Zat Zaf) ZaB) (pv 3)) Zad)) Zad)))))))))),?_⟩
  have sz:∀k:Nat,k≤1000→k≤sizeLine:=fun k h=>Nat.le_trans h (by rw[sizeLine_eq];decide)
  have m4:=ok.m4
  have m1:=ok.m1
  walk_at "rd"
  refine⟨_,rfl,CompRun.text (fun i=>!decide (([97,122,98,121,99]:List Nat).getD i 0∈m)) (fun i=>tx [([97,122,98,121,99]:List Nat).getD i 0]) (by decide) ?_ ?_ ?_⟩
  ·intro i H1 Q1 hi s1 q1
   walk_at "rd"
   exact⟨_,m,rfl,rfl,q1 H1 (Same.refl _)⟩
  ·intro i H1 Q1 hi _ s1 q1
   walk_at "rd"
   exact q1 H1 (Same.refl _)
  intro p1 H1 s1 n1 l1
  rw[Zef (0:Nat) (fun c=>!decide (c∈m)) (fun c=>tx [c]) [97,122,98,121,99]]at l1
  have sne:=ZdQ m4
  obtain⟨S,eS⟩:∃S,S=([97,122,98,121,99]:List Nat).filter (fun c=>!decide (c∈m)):=⟨_,rfl⟩
  rw[←eS]at l1 sne
  have Sm:∀x∈S,x∈LET∧x∉m:=fun x hx=>by
   rw[eS]at hx
   obtain⟨a,b⟩:=List.mem_filter.mp hx
   refine⟨?_,by simpa using b⟩
   have:∀y∈([97,122,98,121,99]:List Nat),y∈LET:=by decide
   exact this x a
  have S1:1≤S.length:=List.length_pos_iff.mpr sne
  show Zb5 _ _ _ _
  refine Zam ?_
  walk_at "rd"
  refine⟨_,_,rfl,.inl ⟨_,.mk l1,rfl⟩,?_⟩
  rw[List.length_map]
  obtain⟨v,hv,vm⟩:=Zeo (xs:=S.map fun c=>tx [c]) (i:=c % ((S.length:Nat):Int)) (Int.emod_nonneg _ (by omega)) (by rw[List.length_map];exact Int.emod_lt_of_pos _ (by omega))
  obtain⟨x,xS,rfl⟩:=List.mem_map.mp vm
  obtain⟨xL,xm⟩:=Sm x xS
  refine⟨by omega,p1,_,_,_,rfl,rfl,.mk l1,hv,Zam ?_⟩
  have nd:m.Nodup:=(Zkc ok.k).2.2.imp fun h=>Nat.ne_of_lt h
  have fin:∀(F:List Nat),F.Nodup→(∀y∈F,y∈LET)→1≤F.length→F.length≤4→x∈F→∃l,[tx F]=[tx l]∧l.length<64∧NewL (List.map tx (ZaQ (signs l))) H1 fun x H1=>∃sep a ls,tx []=tx sep∧[x]=[V.ref a]∧H1 a=some (HO.lst (List.map tx ls))∧(List.map List.length ls).sum+ls.length*sep.length≤16777216∧Q (tx (glue sep ls)) H1:=fun F f1 f2 f3 f4 f5=>by
   obtain⟨k1,k2⟩:=ZfD f1 f2 f3 f4 f5 xm
   refine⟨F,rfl,by omega,NewL.of fun pl H2 s2 n2 l2=>⟨[],pl,_,rfl,rfl,l2,by rw[Zf4,List.length_nil,Nat.mul_zero];omega,?_⟩⟩
   rw[Zfe]
   exact q _ H2 k1 k2 (s1.trans s2)
  walk_at "rd"
  refine⟨_,_,rfl,Za2 (by omega),ite2 (fun h=>?_) (fun h=>Zam ?_)⟩
  ·have m3:m.length<4:=by
    have:=of_decide_eq_true h
    omega
   refine⟨rfl,sz _ (by omega),fin (m++[x]) ?_ ?_ (by simp) (by simp;omega) (by simp)⟩
   ·rw[List.nodup_append]
    refine⟨nd,by simp,fun a ha b hb e=>?_⟩
    rw[List.mem_singleton.mp hb]at e
    exact xm (e▸ha)
   ·intro y hy
    rcases List.mem_append.mp hy with z | z
    ·exact ok.let y z
    ·rw[List.mem_singleton.mp z];exact xL
  ·have m3:m.length=4:=by
    have:¬((m.length:Nat):Int)<4:=fun z=>h (decide_eq_true z)
    omega
   walk_at "rd"
   refine⟨rfl,_,rfl,m,rfl,sz _ (by omega),?_⟩
   rw[show ((1:Int))=((1:Nat):Int) from rfl,Za5]
   refine⟨sz _ (by rw[List.length_drop];omega),fin (m.drop 1++[x]) ?_ ?_ (by simp) (by simp;omega) (by simp)⟩
   ·rw[List.nodup_append]
    refine⟨nd.sublist (List.drop_sublist _ _),by simp,fun a ha b hb e=>?_⟩
    rw[List.mem_singleton.mp hb]at e
    exact xm (e▸List.mem_of_mem_drop ha)
   ·intro y hy
    rcases List.mem_append.mp hy with z | z
    ·exact ok.let y (List.mem_of_mem_drop z)
    ·rw[List.mem_singleton.mp z];exact xL
theorem Zk6:FnScope ["self","text","kinds"] ["self","text","kinds"] (Zah s_KJ):=by walk_at "sc"
theorem Zly (T:Txt K mg a):FnOk P w K mg base CX0 1 a.g_KJ a.e_KJ ["self","text","kinds"] (ZkM K a):=by
 refine T.fm_KJ.ok Zk6 (fun vs H Q E h=>?_) (fun cdv A outer s H vs Q E hr h=>?_)
 ·obtain⟨_,_,_,_,rfl,_⟩:=h;rfl
 ·have hu64:=hr.units
  obtain⟨p,dx,l,m,rfl,hp,q⟩:=h
  refine⟨_,(Zac (ZhR (pv 0) (pv 1) rfl)
   (Zag (ZhR (pv 0) (pv 2) rfl))),?_⟩
  walk_at "rd"
  exact⟨p,a.c_K8,dx,[],rfl,hp,T.cl_K8,T.n_Ring_own_text,(by show 0<1000;decide),p,a.c_K8,dx,_,rfl,ZaH,T.cl_K8,T.n_Ring_own_kinds,(by show 1<1000;decide),q _ ⟨dx,ZaH⟩ (fun b o e ne=>by rw[Zau ne,Zau ne];exact e)⟩
theorem Zk5:FnScope ["self"] ["self"] (Zah s_KK):=by walk_at "sc"
theorem ZjU (T:Txt K mg a):FnOk P w K mg base CX0 1 a.g_KK a.e_KK ["self"] (ZkL K a):=by
 refine T.fm_KK.ok Zk5 (fun vs H Q E h=>?_) (fun cdv A outer s H vs Q E hr h=>?_)
 ·obtain⟨_,_,_,rfl,_⟩:=h;rfl
 ·have hu64:=hr.units
  obtain⟨p,l,m,rfl,hp,q⟩:=h
  refine⟨_,(Zag (Zar (Zbo (K:=K) rfl (pv 0) rfl))),?_⟩
  obtain⟨dx,hp⟩:=hp
  walk_at "rd"
  exact⟨p,_,dx,_,_,rfl,hp,T.cl_K8,T.n_Ring_own_text,Zbb,q⟩
theorem Zk2:FnScope ["thing"] ["thing"] (Zah s_KP):=by walk_at "sc"
theorem Zlx (T:Txt K mg a):FnOk P w K mg base CX0 2 a.f_KP a.d_KP ["thing"] (ZkH K a):=by
 refine T.f_KP.ok Zk2 (fun vs H Q E h=>?_) (fun cdv A outer s H vs Q E hr h=>?_)
 ·obtain⟨_,rfl,_⟩:=h;rfl
 ·have hu64:=hr.units
  obtain⟨l,rfl,hl,q⟩:=h
  refine⟨_,(Zac (Za6 (ZbJ (ZbI (Zak (ZaZ (K:=K) rfl) rfl T.z_isinstance ZaS (Zaa (pv 0) (Zaa (ZcB (v:=.ty "str") rfl T.z_str Zh6 rfl) Zad))))) (Zag (Zar ZdX)) Zay)
   (Zac (Za6 (PW.pt (ZdT (Zas Zhk (Zak (Zan (K:=K) rfl) rfl T.z_len ZaO (Zaa (pv 0) Zad)) Zaf (ZaA _)) (Zcy (Zas ZjN (Zak (Zan (K:=K) rfl) rfl T.z_len ZaO (Zaa (pv 0) Zad)) (Ze6 rfl T.c_KG) (ZaA _))))) (Zag (Zar ZdX)) Zay)
   (Zag (Zar (ZdY (Zao (ZjT T) (hr.mono (by decide)) rfl T.m_KO T.f_KO.kp T.b_KO .nil Zav (Zaa (pv 0) (Zaa (Zhh rfl T.c_KB) Zad))) (ZdW (Zbu (ZaG (K:=K) rfl hu64) (Zbi (Zei rfl) rfl T.z_list ZiY (Zaa (pv 0) Zad)) (Zak (Za0 rfl) rfl T.z_sorted Zbl (Zaa (Zbi (Zbc rfl) rfl T.z_set Zej (Zaa (pv 0) Zad)) Zad)) (ZaA _)))))))),?_⟩
  walk_at "rd"
  refine⟨_,_,_,_,true,rfl,rfl,.ty (.pl (.str _)),Zfb,iteF ?_⟩
  refine⟨_,_,rfl,Za2 hl,?_⟩
  refine ite2 (fun h=>iteT' ?_) (fun h=>?_)
  ·have h1:¬1≤l.length:=by have:=of_decide_eq_true h;omega
   have e:=q H (Same.refl _)
   unfold isk at e
   rw[decide_eq_false h1,Bool.false_and,Bool.false_and,Bool.false_and]at e
   exact e
  ·have h1:1≤l.length:=by have:¬((l.length:Nat):Int)<1:=fun z=>h (decide_eq_true z);omega
   refine⟨_,_,rfl,Za2 hl,?_⟩
   refine ite2 (fun h'=>?_) (fun h'=>?_)
   ·have h4:¬l.length≤4:=by have:=of_decide_eq_true h';omega
    have e:=q H (Same.refl _)
    unfold isk at e
    rw[decide_eq_false h4,Bool.and_false,Bool.false_and,Bool.false_and]at e
    exact e
   ·have h4:l.length≤4:=by have:¬4<((l.length:Nat):Int):=fun z=>h' (decide_eq_true z);omega
    refine⟨l,LET,by rw[ZiB],hl,fun H2 s2=>⟨_,rfl,?_⟩⟩
    refine ite2 (fun ha=>?_) (fun ha=>?_)
    ·refine⟨l,rfl,hl,NewL.of fun p1 H3 s3 n3 l3=>?_⟩
     refine⟨signs l,by rw[signs_length];exact hl,.inl ⟨l,rfl,rfl⟩,fun p4 n4=>?_⟩
     refine⟨p4,ddl (signs l),rfl,ZaH,Nat.lt_of_le_of_lt (ZiS l) (by omega),NewL.of fun p5 H5 s5 n5 l5=>?_⟩
     refine ZgI (.mk ((ZaP n4).trans s5 _ _ l3)) (.mk l5) ?_
     have e:=q H5 (s2.trans (s3.trans ((ZaP n4).trans s5)))
     unfold isk at e
     rw[decide_eq_true h1,decide_eq_true h4,ha,Bool.true_and,Bool.true_and,Bool.true_and]at e
     exact e
    ·have e:=q H2 s2
     unfold isk at e
     rw[Bool.eq_false_iff.mpr ha,Bool.and_false,Bool.false_and]at e
     exact e
theorem Zk1:FnScope ["thing","kinds","most"] ["thing","kinds","most"] (Zah s_KR):=by walk_at "sc"
theorem Zlv (T:Txt K mg a):FnOk P w K mg base CX0 2 a.f_KR a.d_KR ["thing","kinds","most"] (ZkF K a):=by
 refine T.f_KR.ok Zk1 (fun vs H Q E h=>?_) (fun cdv A outer s H vs Q E hr h=>?_)
 ·obtain⟨_,_,_,rfl,_⟩:=h;rfl
 ·have hu64:=hr.units
  obtain⟨l,m,most,rfl,hl,q⟩:=h
  refine⟨_,(Zag (Zar (ZdY (Zak (ZaZ (K:=K) rfl) rfl T.z_isinstance ZaS (Zaa (pv 0) (Zaa (ZcB (v:=.ty "str") rfl T.z_str Zh6 rfl) Zad))) (ZdY (Zbu Zlo (Zak (Zan (K:=K) rfl) rfl T.z_len ZaO (Zaa (pv 0) Zad)) (pv 2) (ZaA _)) (ZdW (Zao (ZjT T) (hr.mono (by decide)) rfl T.m_KO T.f_KO.kp T.b_KO .nil Zav (Zaa (pv 0) (Zaa (pv 1) Zad)))))))),?_⟩
  walk_at "rd"
  refine⟨_,_,_,_,true,rfl,rfl,.ty (.pl (.str _)),Zfb,iteT ?_⟩
  refine⟨_,_,rfl,Za2 hl,?_⟩
  refine ite2 (fun h=>?_) (fun h=>?_)
  ·refine⟨l,m,rfl,hl,fun H2 s2=>?_⟩
   have e:=q H2 s2
   unfold isw at e
   rw[h,Bool.true_and]at e
   exact e
  ·have e:=q H (Same.refl _)
   unfold isw at e
   rw[Bool.eq_false_iff.mpr h,Bool.false_and]at e
   exact e
theorem Zk9:FnScope ["self","length"] ["self","length"] (Zah s_KF):=by walk_at "sc"
theorem Zfw (T:Txt K mg a):FnOk P w K mg base CX0 2 a.g_KF a.e_KF ["self","length"] (ZkP K a):=by
 refine T.fm_KF.ok Zk9 (fun vs H Q E h=>?_) (fun cdv A outer s H vs Q E hr h=>?_)
 ·obtain⟨_,_,_,_,rfl,_⟩:=h;rfl
 ·have hu64:=hr.units
  obtain⟨p,l,m,n,rfl,hp,ok,hn,q⟩:=h
  refine⟨_,(Zag (Zar (Zao (Zlr T) (hr.mono (by decide)) rfl T.m_KY T.f_KY.kp T.b_KY .nil Zav (Zaa (ZbM (pv 0) T.cl_K8 T.me_KA (ZlB T) (hr.mono (by decide)) T.b_KA .nil Zav (Zaa (pv 1) Zad)) (Zaa (pv 1) Zad))))),?_⟩
  obtain⟨dx,hp⟩:=hp
  have l1:=ok.l1
  have l20:=ok.l20
  have ll:=Zcn (l:=l) (n:=n) l1
  walk_at "rd"
  exact⟨p,dx,_,rfl,hp,ZaR (by decide +kernel) (by decide +kernel),p,l,m,n,rfl,⟨dx,hp⟩,ok,hn,laidOut l n,n,rfl,by omega,by omega,by omega,fun q' H2 s2 n2 l2=>q q' H2 s2 n2 (by rw[l2,Zfm l1])⟩
theorem Zci:FnScope ["_law_way","_law_cell_here","_law_kinds_here","_law_size","_law_found","_law_left","_law_k","_law_number","_law_at","_law_letter"] ["_law_way","_law_cell_here","_law_kinds_here","_law_size"] (Zah s_KS):=by walk_at "sc"
theorem Zlu (T:Txt K mg a):FnOk P w K mg base CX0 2 a.f_KS a.d_KS ["_law_way","_law_cell_here","_law_kinds_here","_law_size"] (ZkE K a):=by
 refine T.f_KS.ok Zci (fun vs H Q E h=>?_) (fun cdv A outer s H vs Q E hr h=>?_)
 ·obtain⟨_,_,_,_,rfl,_⟩:=h;rfl
 ·have hu64:=hr.units
  obtain⟨w_,c,m,n,rfl,hm,h4,hn,q⟩:=h
  refine⟨_,(Zac (Zal (i:=4) Zci.nd rfl (Or.inl rfl) (ZaW (l:=[]) (by decide +kernel)))
   (Zac (Zal (i:=5) Zci.nd rfl (Or.inl rfl) (pv 1))
   (Zac (ZbV PassesOwn.never rfl (Zbh rfl T.z_range (Zaa (pv 3) Zad)) (ZaV (i:=6) Zci.nd rfl (Or.inl rfl))
   (Zac (Zal (i:=7) Zci.nd rfl (Or.inl rfl) (pv 5))
   (Zac (Za6 (PW.pt (ZdT (Zas (ZaG (K:=K) rfl hu64) (Zai ZaI (pv 0) Zaf) Zaf (ZaA _)) (Zcy (Zas (Zc7 (K:=K) rfl) (pv 5) (Zc5 (Zaa Zaf (Zaa (ZjF ZhM Zaf) Zad))) rfl)))) (Zag (Zal (i:=7) Zci.nd rfl (Or.inl rfl) (Zao (ZlD T) (hr.mono (by decide)) rfl T.m_K4 T.f_K4.kp T.b_K4 .nil Zav (Zaa (pv 1) (Zaa (Zai ZaK Zaf (pv 6)) Zad))))) Zay)
   (Zac (Zal (i:=4) Zci.nd rfl (Or.inl rfl) (Zai Zaz (pv 4) (Zcj ZfE (pv 2) (Zai ZaI (pv 7) (Zak (Zan (K:=K) rfl) rfl T.z_len ZaO (Zaa (pv 2) Zad))) (fun _ _=>rfl))))
   (Zag (Zal (i:=5) Zci.nd rfl (Or.inl rfl) (Zai ZaJ (pv 5) (Zak (Zan (K:=K) rfl) rfl T.z_len ZaO (Zaa (pv 2) Zad)))))))))
   (Zac (Za6 (PW.pt (Ze3 (Zas (ZaG (K:=K) rfl hu64) (Zai ZaI (Zai ZaJ (pv 0) Zaf) Zaf) Zaf (ZaA _)) (Zdo (Zas ZjN (pv 3) Zaf (ZaA _))))) (Zac (Zal (i:=8) Zci.nd rfl (Or.inl rfl) (Zai ZaI (Zai ZaJ (pv 0) Zaf) (pv 3)))
   (Zac (Zal (i:=4) Zci.nd rfl (Or.inl rfl) (Zaq Za1 (Zai Zbj (Zaq Za1 (pv 4) ZaB (Zat (Zai ZaK Zaf (Zai ZaI (Zai ZaJ (pv 0) Zaf) Zaf)))) (pv 3)) ZaB (Zat (pv 3))))
   (Zac (Zal (i:=9) Zci.nd rfl (Or.inl rfl) (Zcj ZfE (pv 2) (Zai ZaI (Zai ZaJ (pv 0) Zaf) (Zak (Zan (K:=K) rfl) rfl T.z_len ZaO (Zaa (pv 2) Zad))) (fun _ _=>rfl)))
   (Zag (Za6 (Zas (ZaG (K:=K) rfl hu64) (Zai ZaI (Zai ZaJ (pv 0) Zaf) Zaf) Zaf (ZaA _)) (Zag (Zal (i:=4) Zci.nd rfl (Or.inl rfl) (Zai Zaz (Zai Zaz (Zaq Za1 (pv 4) ZaB (Zat (pv 8))) (pv 9)) (Zaq Za1 (pv 4) (Zat (Zai ZaK (pv 8) Zaf)) ZaB)))) Zay))))) Zay)
   (Zag (Zar (pv 4))))))),?_⟩
  walk_at "rd"
  have hM:m.length≤1000:=by omega
  have sz:m.length≤sizeLine:=Nat.le_trans hM (by rw[sizeLine_eq];decide)
  have pm:(0:Int)<m.length:=by omega
  have at_:∀x:Int,∃v,atI m (x % m.length)=some v∧v∈m:=fun x=>Zeo (Int.emod_nonneg _ (by omega)) (Int.emod_lt_of_pos _ pm)
  refine⟨_,rfl,by omega,by omega,ForRun.range (fun i σ H'=>Same H H'∧∃(f:List Nat) (le:Int) (v6 v7:Option V),σ=[some (.int w_),some (.int c),some (tx m),some (.int (n:Nat)),some (tx f),some (.int le),v6,v7,none,none]∧f.length=i∧∀x∈f,x∈m) ⟨Same.refl _,[],c,none,none,rfl,rfl,fun x hx=>by cases hx⟩ ?_ ?_⟩
  ·rintro i σ H1 hi ⟨s1,f,le,v6,v7,rfl,hf,hfm⟩
   have sf:f.length+1≤sizeLine:=by rw[sizeLine_eq];omega
   have cd:CDiv le m.length:=⟨pm,by omega⟩
   have mem:∀ {v:Nat},v∈m→∀x∈f++[v],x∈m:=fun hv x hx=>(List.mem_append.mp hx).elim (hfm x) fun h=>by rw[List.mem_singleton.mp h];exact hv
   walk_at "rd"
   refine⟨by decide,.inl ⟨rfl,_,rfl,ite2 (fun h=>iteT' ?_) (fun h=>⟨by rw[sizeLine_eq];decide,NewT.of fun p2 H2 s2 n2 l2=>⟨p2,_,rfl,.inr (.mk l2),rfl,rfl,_,rfl,ite2 (fun h=>?_) (fun h=>?_)⟩⟩)⟩⟩
   ·refine⟨_,_,rfl,fun r hr=>?_⟩
    walk_at "rd"
    obtain⟨c1,hc1,hm1⟩:=at_ r
    exact⟨_,_,rfl,Za2 hM,pm,m,_,c1,rfl,rfl,sz,hc1,sf,_,_,rfl,Za2 hM,cd,s1,_,_,_,_,rfl,by simp[hf],mem hm1⟩
   ·refine⟨_,_,rfl,fun r hr=>?_⟩
    walk_at "rd"
    obtain⟨c1,hc1,hm1⟩:=at_ r
    exact⟨_,_,rfl,Za2 hM,pm,m,_,c1,rfl,rfl,sz,hc1,sf,_,_,rfl,Za2 hM,cd,s1.trans s2,_,_,_,_,rfl,by simp[hf],mem hm1⟩
   ·obtain⟨c1,hc1,hm1⟩:=at_ le
    exact⟨_,_,rfl,Za2 hM,pm,m,_,c1,rfl,rfl,sz,hc1,sf,_,_,rfl,Za2 hM,cd,s1.trans s2,_,_,_,_,rfl,by simp[hf],mem hm1⟩
  ·rintro σ H1 ⟨s1,f,le,v6,v7,rfl,hf,hfm⟩
   rw[Int.toNat_natCast]at hf
   walk_at "rd"
   refine⟨⟨by decide,by decide⟩,by decide,.inl ⟨rfl,_,rfl,ite2 (fun h=>ite2 (fun h2=>?_) (fun h2=>q f H1 hf hfm s1)) (fun h=>iteF (q f H1 hf hfm s1))⟩⟩
   have hn0:0<n:=by have:=of_decide_eq_true h2;omega
   obtain⟨c1,hc1,hm1⟩:=at_ (w_/2000)
   have cl:=ZbF f none (some (1+w_/6 % 4))
   obtain⟨g1,g2⟩:=fill (e:=1+w_/6 % 4) hn0 hf hfm (by omega)
   have gl:(repT (cut f none (some (1+w_/6 % 4))) (n:Nat)).length≤60*60:=by rw[ZbU,Int.toNat_natCast];exact Nat.mul_le_mul hn (by omega)
   have m0:=Int.emod_nonneg (w_/24) (show ((n:Nat):Int)≠0 by omega)
   have m1:=Int.emod_lt_of_pos (w_/24) (show (0:Int)<(n:Nat) by omega)
   refine⟨⟨by decide,by decide⟩,by omega,⟨by decide,by decide⟩,by decide,_,rfl,f,rfl,by rw[sizeLine_eq];omega,_,_,rfl,rfl,by omega,by omega,by omega,_,rfl,_,rfl,by rw[sizeLine_eq];omega,⟨by decide,by decide⟩,_,_,rfl,Za2 hM,pm,m,_,c1,rfl,rfl,sz,hc1,⟨by decide,by decide⟩,by decide,.inl ⟨rfl,_,rfl,ite2 (fun h3=>?_) (fun h3=>q _ H1 g1 g2 s1)⟩⟩
   generalize cut (repT (cut f none (some (1+w_/6 % 4))) (n:Nat)) none (some ((n:Nat):Int))=g at g1 g2
   obtain⟨k1,k2⟩:=put1 (c:=c1) (i:=w_/24 % (n:Nat)) g1 g2 hm1 m0 m1
   have e1:=k1
   rw[List.length_append,List.length_append,List.length_singleton]at e1
   refine⟨_,rfl,g,rfl,by rw[sizeLine_eq];omega,by rw[sizeLine_eq];omega,_,rfl,g,rfl,by rw[sizeLine_eq];omega,by rw[sizeLine_eq,List.length_append,List.length_singleton];omega,q _ H1 k1 k2 s1⟩
theorem Zcd:FnScope ["_law_text","_law_other","_law_mine","_law_yours","_law_turn","_law_length","_law_here","_law_there","_law_apart"] ["_law_text","_law_other"] (Zah Zil):=by walk_at "sc"
theorem ZhV (T:Txt K mg a):FnOk P w K mg base CX0 2 a.f_due a.d_due ["_law_text","_law_other"] (Zjm K a):=by
 refine T.f_due.ok Zcd (fun vs H Q E h=>?_) (fun cdv A outer s H vs Q E hr h=>?_)
 ·obtain⟨_,_,rfl,_⟩:=h;rfl
 ·have hu64:=hr.units
  obtain⟨l,l2,rfl,h1,h20,i1,i20,q⟩:=h
  refine⟨_,(Zac (Zal (i:=2) Zcd.nd rfl (Or.inl rfl) (Zao (Zhm T) (hr.mono (by decide)) rfl T.m_K3 T.f_K3.kp T.b_K3 .nil Zav (Zaa (pv 0) Zad)))
   (Zaj (Zac (Zal (i:=3) Zcd.nd rfl (Or.inl rfl) (Zao (Zhm T) (hr.mono (by decide)) rfl T.m_K3 T.f_K3.kp T.b_K3 .nil Zav (Zaa (pv 1) Zad)))
   (Zaj (Zac (ZbV PassesOwn.never rfl (Zbh rfl T.z_range (Zaa (Zak (Zan (K:=K) rfl) rfl T.z_len ZaO (Zaa (pv 2) Zad)) Zad)) (ZaV (i:=4) Zcd.nd rfl (Or.inl rfl))
   (Zag (Za6 (Zas (ZaG (K:=K) rfl hu64) (Zai Zaz (Zaq Za1 (pv 2) (Zat (pv 4)) ZaB) (Zaq Za1 (pv 2) ZaB (Zat (pv 4)))) (pv 3) (ZaA _)) (Zag (Zar (Zc5 (Zaa (ZaW (l:=[115,97,109,101]) (by decide +kernel)) (Zaa (pv 2) (Zaa (pv 4) Zad)))))) Zay)))
   (Zaj (Zac (ZbV PassesOwn.never rfl (Zcz rfl T.z_range (Zaa Zaf (Zaa Zaf Zad))) (ZaV (i:=5) Zcd.nd rfl (Or.inl rfl))
   (Zaj (Zac (Zal (i:=6) Zcd.nd rfl (Or.inr rfl) (Zao (ZjR T) (hr.mono (by decide)) rfl T.m_KW T.f_KW.kp T.b_KW .nil Zav (Zaa (pv 0) (Zaa (pv 5) Zad))))
   (Zaj (Zac (Zal (i:=7) Zcd.nd rfl (Or.inr rfl) (Zao (ZjR T) (hr.mono (by decide)) rfl T.m_KW T.f_KW.kp T.b_KW .nil Zav (Zaa (pv 1) (Zaa (pv 5) Zad))))
   (Zaj (Zac (Zal (i:=8) Zcd.nd rfl (Or.inl rfl) (Zai ZjP (ZcA (N:=["_law_word","_law_there"]) (ix:=[none,some 7]) rfl (ZbG rfl) rfl (Zds (K:=K) rfl (pv 6)) (fun _ _ _ _=>(ZaV (i:=0) (show (["_law_word","_law_there"]:List Str).Nodup from by decide +kernel) rfl (Or.inl rfl) (Or.inr rfl))) (fun _ _ _ _=>(Zdq (Zas (Zbp (K:=K) rfl) (pv 0) (pv 1) rfl))) (fun _ _ _ _=>(pv 0))) (ZcA (N:=["_law_word","_law_here"]) (ix:=[none,some 6]) rfl (ZbG rfl) rfl (Zds (K:=K) rfl (pv 7)) (fun _ _ _ _=>(ZaV (i:=0) (show (["_law_word","_law_here"]:List Str).Nodup from by decide +kernel) rfl (Or.inl rfl) (Or.inr rfl))) (fun _ _ _ _=>(Zdq (Zas (Zbp (K:=K) rfl) (pv 0) (pv 1) rfl))) (fun _ _ _ _=>(pv 0)))))
   (Zaj (Zag (Za6 (Zas (ZcC (K:=K) rfl hu64) (pv 8) (Zgh Zad) (ZaA _)) (Zag (Zar (Zc5 (Zaa (ZaW (l:=[117,110,108,105,107,101]) (by decide +kernel)) (Zaa (Zak (ZgU rfl) rfl T.z_min Zkn (Zaa (pv 8) Zad)) Zad))))) Zay))))))))))
   (Zaj (Zag (Zar ZhT)))))))))),?_⟩
  have comp:∀(A B:List (List Nat)) (pa pb:Addr) (H:Hp) (Q:VK),H pa=some (.lst (A.map tx))→H pb=some (.lst (B.map tx))→A.length≤1000→(∀p H2,Same H H2→H2 p=some (.lst ((A.filter fun x=>decide (x∉B)).map tx))→Q (.ref p) H2) →
    CompRun (Itl K pa) [none,some (V.ref pb)] (ZcQ 0) (ZgZ (tOp (rIn K true) (tVar 0) (tVar 1))) (tVar 0) H Q:=fun A B pa pb H Q ha hb hn q=>by
   refine CompRun.listL (xs:=A.map tx) (fun i=>decide (A.getD i []∉B)) (fun i=>tx (A.getD i [])) (by rw[List.length_map];omega) (.mk ha) ?_ ?_ ?_
   ·intro i H1 Q1 hi s1 q1
    rw[List.length_map]at hi
    rw[ZgF hi]
    walk_at "rd"
    refine⟨pb,_,rfl,.inl (.mk (s1 _ _ hb)),rfl,Zbx _,?_⟩
    rw[if_pos rfl,Zgz]
    have e:(!decide (A.getD i []∈B))=decide (A.getD i []∉B):=by rw[decide_not]
    rw[e]
    exact⟨_,rfl,q1 H1 (Same.refl _)⟩
   ·intro i H1 Q1 hi _ s1 q1
    rw[List.length_map]at hi
    rw[ZgF hi]
    walk_at "rd"
    exact q1 H1 (Same.refl _)
   ·intro p H1 s1 n1 l1
    rw[List.length_map]at l1
    refine q p H1 s1 ?_
    rw[l1,Zef ([]:List Nat) (fun x=>decide (x∉B)) tx A]
  have sz:∀k:Nat,k≤1000→k≤sizeLine:=fun k h=>Nat.le_trans h (by rw[sizeLine_eq];decide)
  walk_at "rd"
  refine⟨l,rfl,h1,h20,Zam ?_⟩
  walk_at "rd"
  refine⟨l2,rfl,i1,i20,Zam ?_⟩
  have rl:=ZaU h1
  have r20:=(Zax h1).2.1
  walk_at "rd"
  refine⟨_,_,rfl,Za2 (by omega),_,rfl,by omega,by omega,?_⟩
  rw[rl,Int.toNat_natCast]
  refine ForRun.range (fun i σ H'=>∃v4:Option V,σ=[some (tx l),some (tx l2),some (tx (rootOf l)),some (tx (rootOf l2)),v4,none,none,none,none]∧H'=H∧∀j,j<i→¬TurnAt l l2 j) ⟨_,rfl,rfl,fun j hj=>by omega⟩ ?_ ?_
  ·rintro i σ H1 hi ⟨v4,rfl,rfl,nt⟩
   have e0:(0+(i:Int))=((i:Nat):Int):=by omega
   walk_at "rd"
   rw[e0]
   refine⟨_,rfl,_,rfl,sz _ (by omega),_,rfl,_,rfl,sz _ (by omega),?_⟩
   rw[Za5,Zbk]
   refine⟨sz _ (by rw[List.length_drop,List.length_take];omega),ZeK fun k hk=>⟨k,rfl,ite2 (fun h=>?_) (fun h=>?_)⟩⟩
   ·exact⟨sz _ (by decide),NewT.of fun t H2 s2 n2 h2=>q t _ H2 s2 (.same hi (hk.mp h) nt) h2⟩
   ·refine⟨_,rfl,rfl,fun j hj tj=>?_⟩
    by_cases e:j=i
    ·rw[e]at tj;exact h (hk.mpr tj)
    ·exact nt j (by omega) tj
  ·rintro σ H1 ⟨v4,rfl,rfl,nt⟩
   have nt':¬ ∃k,k<Zae l∧TurnAt l l2 k:=fun ⟨k,hk,t⟩=>nt k hk t
   obtain⟨N,N1,N2,Nn⟩:=ZdL h1 i1 nt'
   walk_at "rd"
   refine Zam ?_
   walk_at "rd"
   refine⟨_,_,rfl,⟨by decide,by decide,by decide,by decide⟩,?_⟩
   rw[show ((21:Int)-1).toNat=20 from rfl]
   refine ForRun.range (fun i σ H'=>∃v5 v6 v7 v8:Option V,σ=[some (tx l),some (tx l2),some (tx (rootOf l)),some (tx (rootOf l2)),v4,v5,v6,v7,v8]∧Same H1 H'∧∀j,1≤j→j<1+i→Zab l j=Zab l2 j) ⟨_,_,_,_,rfl,Same.refl _,fun j a b=>by omega⟩ ?_ ?_
   ·rintro i σ H2 hi ⟨v5,v6,v7,v8,rfl,s2,eqs⟩
    have e0:(1+(i:Int))=((1+i:Nat):Int):=by omega
    walk_at "rd"
    rw[e0]
    refine Zam ?_
    walk_at "rd"
    refine⟨l,1+i,rfl,h1,h20,by omega,fun pa H3 s3 n3 h3=>?_⟩
    show Zb5 _ _ _ _
    refine Zam ?_
    walk_at "rd"
    refine⟨l2,1+i,rfl,i1,i20,by omega,fun pb H4 s4 n4 h4=>?_⟩
    have h34:=s4 _ _ h3
    have a1:=ZeX l (1+i)
    have a2:=ZeX l2 (1+i)
    have sa:=Za9 l (1+i)
    have sb:=Za9 l2 (1+i)
    have fst:∀x,Zab l (1+i)≠Zab l2 (1+i)→x∈xorT (Zab l (1+i)) (Zab l2 (1+i))→(∀y∈xorT (Zab l (1+i)) (Zab l2 (1+i)),¬y<x)→FirstW l l2 (1+i) x:=fun x a b c=>⟨by omega,eqs,a,b,c⟩
    have nxt:Zab l (1+i)=Zab l2 (1+i)→∀j,1≤j→j<1+(i+1)→Zab l j=Zab l2 j:=fun e j a b=>by
     by_cases c:j=1+i
     ·rw[c];exact e
     ·exact eqs j a (by omega)
    generalize Zab l (1+i)=A at *
    generalize Zab l2 (1+i)=B at *
    show Zb5 _ _ _ _
    refine Zam ?_
    walk_at "rd"
    refine⟨pa,rfl,⟨_,.mk h34⟩,comp A B pa pb H4 _ h34 h4 (by omega) fun pc H5 s5 h5=>⟨pb,rfl,⟨_,.mk (s5 _ _ h4)⟩,comp B A pb pa H5 _ (s5 _ _ h4) (s5 _ _ h34) (by omega) fun pd H6 s6 h6=>?_⟩⟩
    have xl:=ZfL A B
    unfold xorT at xl
    refine⟨pc,pd,_,_,rfl,rfl,s6 _ _ h5,h6,sz _ (by rw[List.length_map,List.length_map,←List.length_append];omega),fun pe ne=>?_⟩
    have s26:Same H1 (upd H6 pe (.lst (((A.filter fun x=>decide (x∉B)).map tx)++((B.filter fun x=>decide (x∉A)).map tx)))):=(((((s2.trans s3).trans s4).trans s5).trans s6).trans (ZaP ne))
    have h7:upd H6 pe (.lst (((A.filter fun x=>decide (x∉B)).map tx)++((B.filter fun x=>decide (x∉A)).map tx))) pe=some (.lst ((xorT A B).map tx)):=by
     rw[ZaH];unfold xorT;rw[List.map_append]
    generalize upd H6 pe (.lst (((A.filter fun x=>decide (x∉B)).map tx)++((B.filter fun x=>decide (x∉A)).map tx)))=H7 at s26 h7
    refine Zam ?_
    walk_at "rd"
    refine⟨Nat.zero_le _,NewL.of fun pn H8 s8 n8 h8=>Zix (.mk (s8 _ _ h7)) (.mk h8) ⟨_,rfl,?_⟩⟩
    by_cases c:A=B
    ·have x0:xorT A B=[]:=by
      rw[List.eq_nil_iff_forall_not_mem]
      intro x hx
      rw[ZeF,c]at hx
      rcases hx with z | z<;>exact z.2 z.1
     rw[x0]
     exact iteF ⟨_,_,_,_,rfl,s26.trans s8,nxt c⟩
    ·have x1:=ZhL c sa sb
     have xe:(!(xorT A B).isEmpty)=true:=by
      cases e:xorT A B with
      | nil=>exact absurd e x1
      | cons y r=>rfl
     rw[xe]
     refine iteT ⟨pe,_,rfl,s8 _ _ h7,x1,fun r rm rn=>⟨sz _ (by decide),NewT.of fun t H9 s9 n9 h9=>?_⟩⟩
     exact q t _ H9 ((s26.trans s8).trans s9) (.unlike nt' (fst r c rm rn)) h9
   ·rintro σ H2 ⟨v5,v6,v7,v8,rfl,s2,eqs⟩
    exact absurd (eqs N N1 (by omega)) Nn
theorem Zk8:FnScope ["self"] ["self"] (Zah s_KH):=by walk_at "sc"
theorem ZlA (T:Txt K mg a):FnOk P w K mg base CX0 2 a.g_KH a.e_KH ["self"] (ZkO K a):=by
 refine T.fm_KH.ok Zk8 (fun vs H Q E h=>?_) (fun cdv A outer s H vs Q E hr h=>?_)
 ·obtain⟨_,_,_,rfl,_⟩:=h;rfl
 ·have hu64:=hr.units
  obtain⟨p,l,m,rfl,hp,ok,q⟩:=h
  refine⟨_,(Zag (Zar (Zak (Zan (K:=K) rfl) rfl T.z_len ZaO (Zaa (Za4 (pv 0) T.cl_K8 T.me_KN (Zit T) (hr.mono (by decide)) T.b_KN .nil Zav) Zad)))),?_⟩
  obtain⟨dx,hp⟩:=hp
  have l20:=ok.root.l20
  walk_at "rd"
  exact⟨p,dx,_,rfl,hp,ZaR (by decide +kernel) (by decide +kernel),p,l,m,rfl,⟨dx,hp⟩,ok,_,_,rfl,Za2 (by omega),q⟩
theorem Zk7:FnScope ["thing"] ["thing"] (Zah s_KI):=by walk_at "sc"
theorem Zlz (T:Txt K mg a):FnOk P w K mg base CX0 3 a.f_KI a.d_KI ["thing"] (ZkN K a):=by
 refine T.f_KI.ok Zk7 (fun vs H Q E h=>?_) (fun cdv A outer s H vs Q E hr h=>?_)
 ·obtain⟨_,rfl,_⟩:=h;rfl
 ·have hu64:=hr.units
  obtain⟨l,rfl,hl,hk,q⟩:=h
  refine⟨_,(Zag (Za6 (ZbJ (ZbI (Zao (Zlx T) (hr.mono (by decide)) rfl T.m_KP T.f_KP.kp T.b_KP .nil Zav (Zaa (pv 0) Zad)))) (Zag ZjC) Zay)),?_⟩
  walk_at "rd"
  refine⟨l,rfl,hl,fun H2 s2=>⟨_,rfl,?_⟩⟩
  rw[hk,Bool.not_true]
  exact iteF (q H2 s2)
theorem Zih:FnScope ["one","other","length"] ["one","other"] (Zah s_KQ):=by walk_at "sc"
theorem Zlw (T:Txt K mg a):FnOk P w K mg base CX0 3 a.f_KQ a.d_KQ ["one","other"] (ZkG K a):=by
 refine T.f_KQ.ok Zih (fun vs H Q E h=>?_) (fun cdv A outer s H vs Q E hr h=>?_)
 ·obtain⟨_,_,_,_,_,_,rfl,_⟩:=h;rfl
 ·have hu64:=hr.units
  obtain⟨p,p2,l,m,l2,m2,rfl,hp,hp2,ok,ok2,nt,q⟩:=h
  refine⟨_,(Zac (Zal (i:=2) Zih.nd rfl (Or.inl rfl) Zaf)
   (Zaj (Zac (Ze5 PassesOwn.never (Zas (ZaG (K:=K) rfl hu64) (ZbM (pv 0) T.cl_K8 T.me_Ring_words (Zfw T) (hr.mono (by decide)) T.b_KF .nil Zav (Zaa (pv 2) Zad)) (ZbM (pv 1) T.cl_K8 T.me_Ring_words (Zfw T) (hr.mono (by decide)) T.b_KF .nil Zav (Zaa (pv 2) Zad)) (ZaA _))
   (Zag (ZhS (i:=2) Zih.nd rfl (Or.inl rfl) Zaf ZhZ)))
   (Zaj (Zag (Zar (Zcj (Zdx (K:=K) rfl) (Zak (Za0 rfl) rfl T.z_sorted Zbl (Zaa (Zai (Zis (P:=P) (w:=w) rfl rfl) (Zbi (Zbc rfl) rfl T.z_set Zej (Zaa (ZbM (pv 0) T.cl_K8 T.me_Ring_words (Zfw T) (hr.mono (by decide)) T.b_KF .nil Zav (Zaa (pv 2) Zad)) Zad)) (Zbi (Zbc rfl) rfl T.z_set Zej (Zaa (ZbM (pv 1) T.cl_K8 T.me_Ring_words (Zfw T) (hr.mono (by decide)) T.b_KF .nil Zav (Zaa (pv 2) Zad)) Zad))) Zad)) Zaf (fun _ _=>rfl)))))))),?_⟩
  have sz:∀k:Nat,k≤1000→k≤sizeLine:=fun k h=>Nat.le_trans h (by rw[sizeLine_eq];decide)
  have l20:=ok.l20
  have i20:=ok2.l20
  obtain⟨N,N1,N2,Nn⟩:=ZdL ok.l1 ok2.l1 nt
  walk_at "rd"
  refine Zam ?_
  walk_at "rd"
  refine WhileRun.by (fun σ H'=>∃(n:Nat),σ=[some (.ref p),some (.ref p2),some (.int (n:Nat))]∧Same H H'∧1≤n∧n≤N∧∀j,1≤j→j<n→Zab l j=Zab l2 j) (fun σ _=>match σ with | [_,_,some (.int n)]=>N-n.toNat | _=>0) ⟨1,rfl,Same.refl _,Nat.le_refl _,N1,fun j h1 h2=>by omega⟩ ?_
  rintro σ H1 ⟨n,rfl,s1,n1,nN,eqs⟩
  refine⟨decide (Zab l n=Zab l2 n),fun Q' hq=>?_,fun H2 s2=>?_⟩
  ·obtain⟨d1,e1⟩:=hp
   obtain⟨d2,e2⟩:=hp2
   have g1:=s1 _ _ e1
   walk_at "rd"
   refine⟨p,d1,_,rfl,g1,ZaR (by decide +kernel) (by decide +kernel),p,l,m,n,rfl,⟨d1,g1⟩,ok,by omega,fun q1 H2 s2 f1 h1=>?_⟩
   have g2:=s2 _ _ (s1 _ _ e2)
   refine⟨p2,d2,_,rfl,g2,ZaR (by decide +kernel) (by decide +kernel),p2,l2,m2,n,rfl,⟨d2,g2⟩,ok2,by omega,fun q2 H3 s3 f2 h2=>?_⟩
   exact ZgI (.mk (s3 _ _ h1)) (.mk h2) ⟨_,rfl,hq H3 (s2.trans s3)⟩
  ·by_cases c:Zab l n=Zab l2 n
   ·rw[decide_eq_true c]
    refine iteT ?_
    walk_at "rd"
    have nN':n<N:=Nat.lt_of_le_of_ne nN fun e=>Nn (e▸c)
    refine⟨_,_,rfl,rfl,⟨n+1,rfl,s1.trans s2,by omega,nN',fun j h1 h2=>?_⟩,?_⟩
    ·by_cases e:j=n
     ·rw[e];exact c
     ·exact eqs j h1 (by omega)
    ·show N-((n:Int)+1).toNat<N-((n:Int)).toNat
     omega
   ·rw[decide_eq_false c]
    refine iteF ?_
    walk_at "rd"
    refine Zam ?_
    obtain⟨d1,e1⟩:=hp
    obtain⟨d2,e2⟩:=hp2
    have s02:=s1.trans s2
    have g1:=s02 _ _ e1
    walk_at "rd"
    refine⟨p,d1,_,rfl,g1,ZaR (by decide +kernel) (by decide +kernel),p,l,m,n,rfl,⟨d1,g1⟩,ok,by omega,fun q1 H3 s3 f1 h1=>?_⟩
    have a1:=ZeX l n
    have a2:=ZeX l2 n
    refine⟨Zab l n,by omega,.inr ⟨q1,rfl,.mk h1⟩,fun pa na=>?_⟩
    have s4:Same H3 (upd H3 pa (tset P w pa (ddl (Zab l n)))):=ZaP na
    have h4:upd H3 pa (tset P w pa (ddl (Zab l n))) pa=some (tset P w pa (ddl (Zab l n))):=ZaH
    generalize upd H3 pa (tset P w pa (ddl (Zab l n)))=H4 at s4 h4
    have s04:=(s02.trans s3).trans s4
    have g2:=s04 _ _ e2
    refine⟨p2,d2,_,rfl,g2,ZaR (by decide +kernel) (by decide +kernel),p2,l2,m2,n,rfl,⟨d2,g2⟩,ok2,by omega,fun q2 H5 s5 f2 h2=>?_⟩
    refine⟨Zab l2 n,by omega,.inr ⟨q2,rfl,.mk h2⟩,fun pb nb=>?_⟩
    have h45:=s5 _ _ h4
    have s6:Same H5 (upd H5 pb (tset P w pb (ddl (Zab l2 n)))):=ZaP nb
    have b1:=ZdE (Zab l n)
    have b2:=ZdE (Zab l2 n)
    refine⟨pa,pb,_,_,rfl,rfl,s6 _ _ h45,ZaH,ZbW _,ZbW _,Zap h45 nb,by omega,fun pc nc=>?_⟩
    have s7:=s6.trans (ZaP (o:=tset P w pc (xorT (ddl (Zab l n)) (ddl (Zab l2 n)))) nc)
    have xl:=ZfL (ddl (Zab l n)) (ddl (Zab l2 n))
    refine⟨pc,_,rfl,ZaH,by omega,NewL.of fun pd H8 s8 n8 h8=>?_⟩
    obtain⟨x,r,ex,xm,xn⟩:=ZgX c (Za9 l n) (Za9 l2 n)
    rw[ex]at h8
    exact⟨pd,_,0,tx x,rfl,rfl,.mk h8,atI0,q n x H8 ⟨n1,eqs,c,xm,xn⟩ (((s04.trans s5).trans s7).trans s8)⟩
theorem Zg7:FnScope ["_law_script","_law_at","_law_kinds_here","_law_cell_here","_law_size"] ["_law_script","_law_at","_law_kinds_here"] (Zah s_K2):=by walk_at "sc"
theorem ZjY (T:Txt K mg a):FnOk P w K mg base CX0 3 a.f_K2 a.d_K2 ["_law_script","_law_at","_law_kinds_here"] (Zjn K a):=by
 refine T.f_K2.ok Zg7 (fun vs H Q E h=>?_) (fun cdv A outer s H vs Q E hr h=>?_)
 ·obtain⟨_,_,_,_,rfl,_⟩:=h;rfl
 ·have hu64:=hr.units
  obtain⟨b,ns,k,m,rfl,hS,hk,hk1,hm,h4,q⟩:=h
  refine⟨_,(Zac (Zal (i:=3) Zg7.nd rfl (Or.inl rfl) (Zao (Zfx T) (hr.mono (by decide)) rfl T.m_K1 T.f_K1.kp T.b_K1 .nil Zav (Zaa (pv 0) (Zaa (pv 1) Zad))))
   (Zac (Zal (i:=4) Zg7.nd rfl (Or.inl rfl) (Zai ZaK Zaf (Zai ZaI (pv 3) Zaf)))
   (Zac (Za6 (Zas (ZaG (K:=K) rfl hu64) (Zai ZaI (Zai ZaJ (pv 3) Zaf) Zaf) Zaf (ZaA _)) (Zag (Zal (i:=4) Zg7.nd rfl (Or.inl rfl) (Zai ZaK Zaf (Zai ZaI (Zai ZaJ (pv 3) Zaf) Zaf)))) Zay)
   (Zag (Zar (Zao (Zlu T) (hr.mono (by decide)) rfl T.m_KS T.f_KS.kp T.b_KS .nil Zav (Zaa (Zao (Zfx T) (hr.mono (by decide)) rfl T.m_K1 T.f_K1.kp T.b_K1 .nil Zav (Zaa (pv 0) (Zaa (Zai ZaK (pv 1) Zaf) Zad))) (Zaa (Zao (Zfx T) (hr.mono (by decide)) rfl T.m_K1 T.f_K1.kp T.b_K1 .nil Zav (Zaa (pv 0) (Zaa (Zai ZaK (pv 1) Zaf) Zad))) (Zaa (pv 2) (Zaa (pv 4) Zad)))))))))),?_⟩
  walk_at "rd"
  refine⟨b,ns,k,rfl,hS,hk,by omega,fun c=>?_⟩
  walk_at "rd"
  refine⟨by decide,⟨by decide,by decide⟩,by decide,.inl ⟨rfl,_,rfl,ite2 (fun h=>?_) (fun h=>?_)⟩⟩
  ·refine⟨⟨by decide,by decide⟩,by decide,b,ns,_,rfl,hS,by omega,by omega,fun w1=>⟨b,ns,_,rfl,hS,by omega,by omega,fun w2=>⟨w1,w2,m,(1+c/32 % 20).toNat,?_,hm,h4,by omega,fun l H2 hl hx s2=>q l H2 (by omega) (by omega) hx s2⟩⟩⟩
   have:(((1+c/32 % 20).toNat:Nat):Int)=1+c/32 % 20:=by omega
   rw[this]
  ·refine⟨b,ns,_,rfl,hS,by omega,by omega,fun w1=>⟨b,ns,_,rfl,hS,by omega,by omega,fun w2=>⟨w1,w2,m,(1+c % 8).toNat,?_,hm,h4,by omega,fun l H2 hl hx s2=>q l H2 (by omega) (by omega) hx s2⟩⟩⟩
   have:(((1+c % 8).toNat:Nat):Int)=1+c % 8:=by omega
   rw[this]
theorem Zfs:FnScope ["self","found","shorter","length","standing"] ["self"] (Zah s_KC):=by walk_at "sc"
theorem ZjW (T:Txt K mg a):FnOk P w K mg base CX0 3 a.g_KC a.e_KC ["self"] (ZkR K a):=by
 refine T.fm_KC.ok Zfs (fun vs H Q E h=>?_) (fun cdv A outer s H vs Q E hr h=>?_)
 ·obtain⟨_,_,_,rfl,_⟩:=h;rfl
 ·have hu64:=hr.units
  obtain⟨p,l,m,rfl,hp,ok,q⟩:=h
  refine⟨_,(Zac (Zal (i:=1) Zfs.nd rfl (Or.inl rfl) (Zgh Zad))
   (Zac (Zal (i:=2) Zfs.nd rfl (Or.inl rfl) (ZbM (pv 0) T.cl_K8 T.me_Ring_words (Zfw T) (hr.mono (by decide)) T.b_KF .nil Zav (Zaa Zaf Zad)))
   (Zac (ZbV PassesOwn.never rfl (Zcz rfl T.z_range (Zaa Zaf (Zaa (Zai ZaK (Za4 (pv 0) T.cl_K8 T.me_KH (ZlA T) (hr.mono (by decide)) T.b_KH .nil Zav) Zaf) Zad))) (ZaV (i:=3) Zfs.nd rfl (Or.inl rfl))
   (Zac (Zal (i:=4) Zfs.nd rfl (Or.inl rfl) (ZbM (pv 0) T.cl_K8 T.me_Ring_words (Zfw T) (hr.mono (by decide)) T.b_KF .nil Zav (Zaa (pv 3) Zad)))
   (Zac (Zdp (Zhj PySem.F.plainAttrs_list PySem.F.slot_list_extend PySem.F.type_list_extend Zgo (pv 1) (Zaa (Zao (ZlE T) (hr.mono (by decide)) rfl T.m_K0 T.f_K0.kp T.b_K0 .nil Zav (Zaa (pv 2) (Zaa (pv 4) (Zaa (Zbo (K:=K) rfl (pv 0) rfl) Zad)))) Zad)))
   (Zag (Zal (i:=2) Zfs.nd rfl (Or.inl rfl) (pv 4))))))
   (Zag (Zar (pv 1)))))),?_⟩
  obtain⟨dx,hp⟩:=hp
  have l1:=ok.l1
  have l20:=ok.l20
  have m4:=ok.m4
  obtain⟨r1,r2,_⟩:=Zax l1
  walk_at "rd"
  refine⟨Nat.zero_le _,NewL.of fun pf H1 s1 nf lf=>?_⟩
  refine⟨p,dx,_,rfl,s1 _ _ hp,ZaR (by decide +kernel) (by decide +kernel),p,l,m,0,rfl,⟨dx,s1 _ _ hp⟩,ok,by omega,fun q0 H2 s2 n2 e2=>?_⟩
  refine⟨p,dx,_,rfl,(s1.trans s2) _ _ hp,ZaR (by decide +kernel) (by decide +kernel),p,l,m,rfl,⟨dx,(s1.trans s2) _ _ hp⟩,ok,?_⟩
  rw[ZaU l1]
  walk_at "rd?"
  have ej:((Zae l:Nat)+1-1:Int).toNat=Zae l:=by omega
  refine⟨_,_,rfl,⟨by omega,by omega,by omega,by omega⟩,?_⟩
  rw[ej]
  refine ForRun.range (fun i σ H'=>∃(v3 v4:Option V) (q0:Addr),σ=[some (.ref p),some (.ref pf),some (.ref q0),v3,v4]∧Same H H'∧H' pf=some (.lst ((Zba l m i).map tx))∧H' q0=some (.lst ((Zab l i).map tx))∧pf≠q0) ⟨_,_,q0,rfl,s1.trans s2,s2 _ _ lf,e2,Zap lf n2⟩ ?_ ?_
  ·rintro i σ H3 hi ⟨v3,v4,q0,rfl,s3,h3,h4,ne0⟩
   have e1:(1+(i:Int))=((i+1:Nat):Int):=by omega
   have la:=ZfC (l:=l) (m:=m) (i:=i+1) m4 l20
   rw[ZcK,List.length_append]at la
   rw[e1]
   walk_at "rd"
   refine⟨p,dx,_,rfl,s3 _ _ hp,ZaR (by decide +kernel) (by decide +kernel),p,l,m,i+1,rfl,⟨dx,s3 _ _ hp⟩,ok,by omega,fun q1 H4 s4 n4 e4=>?_⟩
   have h3':=s4 _ _ h3
   have ne1:pf≠q1:=Zap h3 n4
   refine⟨.inl ⟨rfl,_,.mk h3'⟩,p,_,dx,_,_,rfl,(s3.trans s4) _ _ hp,T.cl_K8,T.n_Ring_own_kinds,Zde,?_⟩
   refine⟨q0,q1,Zab l i,Zab l (i+1),m,rfl,s4 _ _ h4,e4,by have:=ZbT l i;omega,m4,fun w hw=>by have:=((ZaN l1).mp hw).1;omega,fun r H5 s5 n5 e5=>?_⟩
   refine⟨pf,r,_,_,rfl,rfl,s5 _ _ h3',e5,by rw[List.length_map,List.length_map,sizeLine_eq];omega,_,_,q1,rfl,same_upd3 (s3.trans (s4.trans s5)) nf,?_,?_,ne1⟩
   ·rw[ZaH,ZcK,List.map_append]
   ·rw[Zau (Ne.symm ne1)]
    exact s5 _ _ e4
  ·rintro σ H3 ⟨v3,v4,q0,rfl,s3,h3,h4,ne0⟩
   walk_at "rd"
   exact q pf H3 s3 nf h3
theorem Zg6:FnScope ["one","other","root","wanted","turn"] ["one","other"] (Zah s_K9):=by walk_at "sc"
theorem ZjX (T:Txt K mg a):FnOk P w K mg base (CXr P w) 4 a.f_K9 a.d_K9 ["one","other"] (ZkT K a):=by
 refine T.f_K9.okX Zg6 (fun vs H Q E h=>?_) (fun cdv A outer s H vs Q E hr h=>?_)
 ·obtain⟨_,_,_,_,_,_,rfl,_⟩:=h;rfl
 ·have hu64:=hr.units
  obtain⟨p,p2,l,m,l2,m2,rfl,hp,hp2,ok,ok2,q⟩:=h
  refine⟨_,(Zac (Za6 (Zas (ZcC (K:=K) rfl hu64) (Za4 (pv 0) T.cl_K8 T.me_Ring_kinds (ZjV T) (hr.mono (by decide)) T.b_KE .nil Zav) (Za4 (pv 1) T.cl_K8 T.me_Ring_kinds (ZjV T) (hr.mono (by decide)) T.b_KE .nil Zav) (ZaA _)) (Zag (Zhf ZgR rfl (Zgg T.x_KU T.i_KU rfl T.m_KU (Zaa (ZaW (l:=[116,104,101,32,114,105,110,103,115,32,104,97,118,101,32,117,110,108,105,107,101,32,107,105,110,100,115]) (by decide +kernel)) Zad)))) Zay)
   (Zaj (Zac (Zal (i:=2) Zg6.nd rfl (Or.inl rfl) (Za4 (pv 0) T.cl_K8 T.me_KN (Zit T) (hr.mono (by decide)) T.b_KN .nil Zav))
   (Zaj (Zac (Zal (i:=3) Zg6.nd rfl (Or.inl rfl) (Za4 (pv 1) T.cl_K8 T.me_KN (Zit T) (hr.mono (by decide)) T.b_KN .nil Zav))
   (Zaj (Zac (ZbV ZjK rfl (Zbh rfl T.z_range (Zaa (Zak (Zan (K:=K) rfl) rfl T.z_len ZaO (Zaa (pv 2) Zad)) Zad)) (ZaV (i:=4) Zg6.nd rfl (Or.inl rfl))
   (Zag (Za6 (Zas (ZaG (K:=K) rfl hu64) (Zai Zaz (Zaq Za1 (pv 2) (Zat (pv 4)) ZaB) (Zaq Za1 (pv 2) ZaB (Zat (pv 4)))) (pv 3) (ZaA _)) (Zag (Zar (Zc5 (Zaa (ZaW (l:=[115,97,109,101]) (by decide +kernel)) (Zaa (pv 2) (Zaa (pv 4) Zad)))))) Zay)))
   (Zaj (Zag (Zar (Zc5 (Zaa (ZaW (l:=[117,110,108,105,107,101]) (by decide +kernel)) (Zaa (Zao (Zlw T) (hr.mono (by decide)) rfl T.m_KQ T.f_KQ.kp T.b_KQ .nil Zav (Zaa (pv 0) (Zaa (pv 1) Zad))) Zad))))))))))))),?_⟩
  have sz:∀k:Nat,k≤1000→k≤sizeLine:=fun k h=>Nat.le_trans h (by rw[sizeLine_eq];decide)
  have l20:=ok.l20
  have i20:=ok2.l20
  obtain⟨d1,e1⟩:=hp
  obtain⟨d2,e2⟩:=hp2
  walk_at "rd"
  refine⟨p,d1,_,rfl,e1,ZaR (by decide +kernel) (by decide +kernel),p,l,m,rfl,⟨d1,e1⟩,p2,d2,_,rfl,e2,ZaR (by decide +kernel) (by decide +kernel),p2,l2,m2,rfl,⟨d2,e2⟩,?_⟩
  rcases q with⟨rfl,q⟩|⟨ne,q⟩
  ·refine ZlF ⟨false,rfl,iteF (Zam ?_)⟩
   walk_at "rd"
   refine⟨p,d1,_,rfl,e1,ZaR (by decide +kernel) (by decide +kernel),p,l,m,rfl,⟨d1,e1⟩,ok,Zam ?_⟩
   walk_at "rd"
   refine⟨p2,d2,_,rfl,e2,ZaR (by decide +kernel) (by decide +kernel),p2,l2,m,rfl,⟨d2,e2⟩,ok2,Zam ?_⟩
   have rl:=ZaU ok.l1
   have r20:=(Zax ok.l1).2.1
   walk_at "rd"
   refine⟨_,_,rfl,Za2 (by omega),_,rfl,by omega,by omega,?_⟩
   rw[rl,Int.toNat_natCast]
   refine ForRun.range (fun i σ H'=>∃v4:Option V,σ=[some (.ref p),some (.ref p2),some (tx (rootOf l)),some (tx (rootOf l2)),v4]∧H'=H∧∀j,j<i→¬TurnAt l l2 j) ⟨_,rfl,rfl,fun j hj=>by omega⟩ ?_ ?_
   ·rintro i σ H1 hi ⟨v4,rfl,rfl,nt⟩
    have e0:(0+(i:Int))=((i:Nat):Int):=by omega
    walk_at "rd"
    rw[e0]
    refine⟨_,rfl,_,rfl,sz _ (by omega),_,rfl,_,rfl,sz _ (by omega),?_⟩
    rw[Za5,Zbk]
    refine⟨sz _ (by rw[List.length_drop,List.length_take];omega),ZeK fun k hk=>⟨k,rfl,ite2 (fun h=>?_) (fun h=>?_)⟩⟩
    ·exact⟨sz _ (by decide),NewT.of fun t H2 s2 n2 h2=>q t _ H2 s2 (.same hi (hk.mp h) nt) h2⟩
    ·refine⟨_,rfl,rfl,fun j hj tj=>?_⟩
     by_cases e:j=i
     ·rw[e]at tj;exact h (hk.mpr tj)
     ·exact nt j (by omega) tj
   ·rintro σ H1 ⟨v4,rfl,rfl,nt⟩
    walk_at "rd"
    refine Zam ?_
    walk_at "rd"
    have nt':¬ ∃k,k<Zae l∧TurnAt l l2 k:=fun ⟨k,hk,t⟩=>nt k hk t
    refine⟨p,p2,l,m,l2,m,rfl,⟨d1,e1⟩,⟨d2,e2⟩,ok,ok2,nt',fun n x H2 fw s2=>?_⟩
    exact⟨sz _ (by decide),NewT.of fun t H3 s3 n3 h3=>q t _ H3 (s2.trans s3) (.unlike nt' fw) h3⟩
  ·refine Ziw fun k hk=>⟨k,rfl,ite2 (fun _=>?_) (fun h=>absurd (hk.mpr ne) h)⟩
   exact⟨by decide,fun e he=>⟨e,_,none,rfl,ZaH,T.x_KU,q e _ (Zf9 he) (.bare ZaH)⟩⟩
theorem ZeB:FnScope ["_law_script","_law_text","_law_kinds_here","_law_cell_here","_law_at","_law_root_here","_law_by","_law_many","_law_letter"] ["_law_script","_law_text","_law_kinds_here"] (Zah s_KZ):=by walk_at "sc"
theorem Zlq (T:Txt K mg a):FnOk P w K mg base CX0 4 a.f_KZ a.d_KZ ["_law_script","_law_text","_law_kinds_here"] (Zky K a):=by
 refine T.f_KZ.ok ZeB (fun vs H Q E h=>?_) (fun cdv A outer s H vs Q E hr h=>?_)
 ·obtain⟨_,_,_,_,rfl,_⟩:=h;rfl
 ·have hu64:=hr.units
  obtain⟨b,ns,l,m,rfl,hS,ok,q⟩:=h
  refine⟨_,(Zac (Zal (i:=3) ZeB.nd rfl (Or.inl rfl) (Zao (Zfx T) (hr.mono (by decide)) rfl T.m_K1 T.f_K1.kp T.b_K1 .nil Zav (Zaa (pv 0) (Zaa Zaf Zad))))
   (Zaj (Zac (Zal (i:=4) ZeB.nd rfl (Or.inl rfl) (Zai ZaI (Zai ZaJ (pv 3) Zaf) (Zak (Zan (K:=K) rfl) rfl T.z_len ZaO (Zaa (pv 1) Zad))))
   (Zaj (Zac (Za6 (Zas (ZaG (K:=K) rfl hu64) (Zai ZaI (pv 3) Zaf) Zaf (ZaA _)) (Zac (Zal (i:=5) ZeB.nd rfl (Or.inl rfl) (Zao (Zhm T) (hr.mono (by decide)) rfl T.m_K3 T.f_K3.kp T.b_K3 .nil Zav (Zaa (pv 1) Zad)))
   (Zaj (Zac (Zal (i:=6) ZeB.nd rfl (Or.inl rfl) (Zai ZaI (Zai ZaJ (pv 3) Zaf) (Zak (Zan (K:=K) rfl) rfl T.z_len ZaO (Zaa (pv 5) Zad))))
   (Zaj (Zac (Zal (i:=7) ZeB.nd rfl (Or.inl rfl) (Zai ZaK Zaf (Zai ZaI (Zai ZaJ (pv 3) Zaf) (Zai ZaJ Zaf (Zak (Zan (K:=K) rfl) rfl T.z_len ZaO (Zaa (pv 5) Zad))))))
   (Zaj (Zag (Zar (Zai Zbj (Zai Zaz (Zaq Za1 (pv 5) (Zat (pv 6)) ZaB) (Zaq Za1 (pv 5) ZaB (Zat (pv 6)))) (pv 7)))))))))) Zay)
   (Zaj (Zac (Zal (i:=8) ZeB.nd rfl (Or.inl rfl) (Zcj ZfE (pv 2) (Zai ZaI (Zai ZaJ (pv 3) Zaf) (Zak (Zan (K:=K) rfl) rfl T.z_len ZaO (Zaa (pv 2) Zad))) (fun _ _=>rfl)))
   (Zaj (Zac (Za6 (Zas (ZaG (K:=K) rfl hu64) (Zai ZaI (pv 3) Zaf) Zaf (ZaA _)) (Zag (Zar (Zai Zaz (Zai Zaz (Zaq Za1 (pv 1) ZaB (Zat (pv 4))) (pv 8)) (Zaq Za1 (pv 1) (Zat (Zai ZaK (pv 4) Zaf)) ZaB)))) Zay)
   (Zaj (Zac (Za6 (Zas (ZaG (K:=K) rfl hu64) (Zai ZaI (pv 3) Zaf) Zaf (ZaA _)) (Zag (Zar (Zai Zaz (Zai Zaz (Zaq Za1 (pv 1) ZaB (Zat (pv 4))) (ZjH (Zaq Za1 (pv 1) (Zat (pv 4)) (Zat (Zai ZaK (pv 4) Zaf))) (ZjF ZhM Zaf))) (Zaq Za1 (pv 1) (Zat (Zai ZaK (pv 4) Zaf)) ZaB)))) Zay)
   (Zaj (Zac (Za6 (PW.pt (Ze3 (Zas (ZaG (K:=K) rfl hu64) (Zai ZaI (pv 3) Zaf) Zaf (ZaA _)) (Zdo (Zas Zhk (Zak (Zan (K:=K) rfl) rfl T.z_len ZaO (Zaa (pv 1) Zad)) Zaf (ZaA _))))) (Zag (Zar (Zai Zaz (Zai Zaz (Zaq Za1 (pv 1) ZaB (Zat (pv 4))) (Zcj ZfE (pv 1) (pv 4) (fun _ _=>rfl))) (Zaq Za1 (pv 1) (Zat (pv 4)) ZaB)))) Zay)
   (Zaj (Zac (Za6 (Zas (ZaG (K:=K) rfl hu64) (Zai ZaI (pv 3) Zaf) Zaf (ZaA _)) (Zag (Zar (Zai Zaz (Zaq Za1 (pv 1) ZaB (Zat (pv 4))) (Zaq Za1 (pv 1) (Zat (Zai ZaK (pv 4) Zaf)) ZaB)))) Zay)
   (Zaj (Zag (Zar (Zao (ZjY T) (hr.mono (by decide)) rfl T.m_K2 T.f_K2.kp T.b_K2 .nil Zav (Zaa (pv 0) (Zaa Zaf (Zaa (pv 2) Zad)))))))))))))))))))))),?_⟩
  have sz:∀k:Nat,k≤1000→k≤sizeLine:=fun k h=>Nat.le_trans h (by rw[sizeLine_eq];decide)
  have l1:=ok.l1
  have l20:=ok.l20
  have m1:=ok.m1
  have m4:=ok.m4
  have pm:(0:Int)<m.length:=by omega
  have fin:∀(l2:List Nat) (H2:Hp),Same H H2→1≤l2.length→l2.length≤20→(∀x∈l2,x∈m)→Q (tx l2) H2:=fun l2 H2 s2 a b c=>q l2 H2 ⟨ok.k,ok.m1,ok.m4,a,b,c⟩ s2
  walk_at "rd"
  refine⟨b,ns,4,rfl,hS,by decide,by decide,fun c=>?_⟩
  show Zb5 _ _ _ _
  refine Zam ?_
  have k0:=Int.emod_nonneg (c/5) (show ((l.length:Nat):Int)≠0 by omega)
  have k1:=Int.emod_lt_of_pos (c/5) (show (0:Int)<(l.length:Nat) by omega)
  walk_at "rd"
  refine⟨⟨by decide,by decide⟩,_,_,rfl,Za2 (by omega),by omega,Zam ?_⟩
  generalize c/5 % ((l.length:Nat):Int)=kk at k0 k1
  obtain⟨k,rfl⟩:∃n:Nat,kk=(n:Int):=⟨kk.toNat,by omega⟩
  have kl:k<l.length:=by omega
  have ek:((k:Int)+1)=((k+1:Nat):Int):=by omega
  have ek2:((k:Int)+2)=((k+2:Nat):Int):=by omega
  have w0:=Int.emod_nonneg c (show (5:Int)≠0 by decide)
  have w5:=Int.emod_lt_of_pos c (show (0:Int)<5 by decide)
  have ltk:(l.take k).length=k:=by rw[List.length_take];omega
  have ldk:∀j,(l.drop j).length=l.length-j:=fun j=>List.length_drop
  have mt:∀j,∀x∈l.take j,x∈m:=fun j x hx=>ok.mem x (List.mem_of_mem_take hx)
  have md:∀j,∀x∈l.drop j,x∈m:=fun j x hx=>ok.mem x (List.mem_of_mem_drop hx)
  walk_at "rd"
  refine⟨by decide,ZcR fun b0 h0=>⟨b0,rfl,ite2 (fun _=>⟨l,rfl,l1,l20,Zam ?_⟩) (fun _=>Zam ?_)⟩⟩
  ·have rl:=ZaU l1
   have rp:=Zax l1
   have r1:1≤(rootOf l).length:=by omega
   have r20:(rootOf l).length≤20:=by omega
   have rm:∀x∈rootOf l,x∈m:=fun x hx=>ok.mem x (ZeZ hx)
   generalize rootOf l=R at r1 r20 rm
   walk_at "rd"
   refine⟨⟨by decide,by decide⟩,_,_,rfl,Za2 (by omega),by omega,Zam ?_⟩
   have j0:=Int.emod_nonneg (c/5) (show ((R.length:Nat):Int)≠0 by omega)
   have j1:=Int.emod_lt_of_pos (c/5) (show (0:Int)<(R.length:Nat) by omega)
   generalize c/5 % ((R.length:Nat):Int)=jj at j0 j1
   obtain⟨j,rfl⟩:∃n:Nat,jj=(n:Int):=⟨jj.toNat,by omega⟩
   have jl:j<R.length:=by omega
   have D1:1≤20/R.length:=(Nat.le_div_iff_mul_le r1).mpr (by omega)
   have D2:20/R.length*R.length≤20:=Nat.div_mul_le_self _ _
   have D3:20/R.length≤20:=Nat.div_le_self _ _
   have eD:(20:Int)/((R.length:Nat):Int)=((20/R.length:Nat):Int):=(Int.natCast_ediv 20 R.length).symm
   generalize 20/R.length=D at D1 D2 D3 eD
   walk_at "rd"
   refine⟨⟨by decide,by decide⟩,_,_,rfl,Za2 (by omega),⟨by omega,by omega⟩,?_⟩
   rw[eD]
   refine⟨by omega,Zam ?_⟩
   have x0:=Int.emod_nonneg (c/100) (show ((D:Nat):Int)≠0 by omega)
   have x1:=Int.emod_lt_of_pos (c/100) (show (0:Int)<(D:Nat) by omega)
   generalize c/100 % ((D:Nat):Int)=xx at x0 x1
   obtain⟨x,rfl⟩:∃n:Nat,xx=(n:Int):=⟨xx.toNat,by omega⟩
   walk_at "rd"
   refine⟨_,rfl,R,rfl,sz _ (by omega),_,rfl,R,rfl,sz _ (by omega),?_⟩
   rw[Za5,Zbk]
   have dl:(R.drop j++R.take j).length=R.length:=by rw[List.length_append,List.length_drop,List.length_take];omega
   refine⟨sz _ (by rw[←List.length_append,dl];omega),_,_,rfl,rfl,by omega,by omega,by omega,?_⟩
   have tl:(1+(x:Int)).toNat=1+x:=by omega
   have rl2:(repT (R.drop j++R.take j) (1+(x:Int))).length=(1+x)*R.length:=by rw[ZbU,tl,dl]
   refine fin _ H (Same.refl _) (by rw[rl2];exact Nat.le_trans r1 (Nat.le_mul_of_pos_left _ (by omega))) ?_ ?_
   ·rw[rl2]
    exact Nat.le_trans (Nat.mul_le_mul_right _ (by omega)) D2
   ·intro y hy
    unfold repT at hy
    obtain⟨z,hz,hyz⟩:=List.mem_flatten.mp hy
    rw[List.eq_of_mem_replicate hz]at hyz
    rcases List.mem_append.mp hyz with u | u
    ·exact rm y (List.mem_of_mem_drop u)
    ·exact rm y (List.mem_of_mem_take u)
  ·obtain⟨x,hx,xm⟩:=Zeo (xs:=m) (i:=c/100 % ((m.length:Nat):Int)) (Int.emod_nonneg _ (by omega)) (Int.emod_lt_of_pos _ pm)
   walk_at "rd"
   refine⟨⟨by decide,by decide⟩,_,_,rfl,Za2 (by omega),by omega,m,_,x,rfl,rfl,sz _ (by omega),hx,Zam ?_⟩
   walk_at "rd"
   refine⟨by decide,ZcR fun b1 h1=>⟨b1,rfl,ite2 (fun _=>?_) (fun _=>Zam ?_)⟩⟩
   ·refine⟨_,rfl,l,rfl,sz _ (by omega),?_⟩
    rw[Zbk,ltk]
    refine⟨sz _ (by omega),_,rfl,l,rfl,sz _ (by omega),?_⟩
    rw[ek,Za5,ldk]
    refine⟨sz _ (by rw[List.length_append,ltk,List.length_singleton];omega),fin _ H (Same.refl _) ?_ ?_ fun y hy=>?_⟩
    ·rw[List.length_append,List.length_append,List.length_singleton];omega
    ·rw[List.length_append,List.length_append,List.length_singleton,ltk,ldk];omega
    ·rcases List.mem_append.mp hy with z | z
     ·rcases List.mem_append.mp z with u | u
      ·exact mt _ y u
      ·rw[List.mem_singleton.mp u];exact xm
     ·exact md _ y z
   walk_at "rd"
   refine⟨by decide,ZcR fun b2 h2=>⟨b2,rfl,ite2 (fun _=>?_) (fun _=>Zam ?_)⟩⟩
   ·have mid:(l.drop k).take (k+2-k)=(l.drop k).take 2:=by rw[Nat.add_sub_cancel_left]
    have ml:((l.drop k).take 2).length=min 2 (l.length-k):=by rw[List.length_take,ldk]
    refine⟨_,rfl,l,rfl,sz _ (by omega),_,rfl,_,rfl,l,rfl,sz _ (by omega),?_⟩
    rw[ek2,ZgS,Zbk,mid]
    refine⟨_,rfl,trivial,sz _ (by omega),sz _ (by rw[List.length_reverse,ltk,ml];omega),_,rfl,l,rfl,sz _ (by omega),?_⟩
    rw[Za5]
    refine⟨sz _ (by rw[List.length_append,List.length_reverse,ltk,ml,ldk];omega),fin _ H (Same.refl _) ?_ ?_ fun y hy=>?_⟩
    ·rw[List.length_append,List.length_append,List.length_reverse,ltk,ml,ldk];omega
    ·rw[List.length_append,List.length_append,List.length_reverse,ltk,ml,ldk];omega
    ·rcases List.mem_append.mp hy with z | z
     ·rcases List.mem_append.mp z with u | u
      ·exact mt _ y u
      ·exact md _ y (List.mem_of_mem_take (List.mem_reverse.mp u))
     ·exact md _ y z
   walk_at "rd"
   have rest:∀b3:Bool,(b3=true↔c % 5=3)→(b3=true→l.length=20)→Zb5 (tSeq (tIfS (ZgZ (tOp (rEqD K false) (tOp (rI (fun x j=>0<j) fun i j=>V.int (i % j)) (tVar 3) (tC (V.int 5))) (tC (V.int 3)))) (tRet (tOp (rT (fun a b=>a.length+b.length≤sizeLine) fun a b=>tx (a++b)) (tSl (fun x lo hi H Q=>∃l,x=tx l∧l.length≤sizeLine∧Q (tx (cut l lo hi)) H) (tVar 1) tNoPart (Zg0 (tVar 4))) (tSl (fun x lo hi H Q=>∃l,x=tx l∧l.length≤sizeLine∧Q (tx (cut l lo hi)) H) (tVar 1) (Zg0 (tOp (rI0 fun i j=>V.int (i+j)) (tVar 4) (tC (V.int 1)))) tNoPart))) tNext) (Zb5 (tRet (Zg1 (Zjn K a) [] E0 (Zf0 (tVar 0) (Zf0 (tC (V.int 5)) (Zf0 (tVar 2) tNil))))))) { nx:=fun x H'=>Q V.non H',rt:=Q } [some (V.ref b),some (tx l),some (tx m),some (V.int c),some (V.int ↑k),none,none,none,some (tx [x])] H:=fun b3 h3 hl=>by
    refine Zam ?_
    walk_at "rd"
    refine⟨by decide,ZcR fun b4 h4=>⟨b4,rfl,ite2 (fun h=>?_) (fun _=>Zam ?_)⟩⟩
    ·have l2:=hl (h3.mpr (h4.mp h))
     refine⟨_,rfl,l,rfl,sz _ (by omega),_,rfl,l,rfl,sz _ (by omega),?_⟩
     rw[ek,Zbk,Za5]
     refine⟨sz _ (by rw[ltk,ldk];omega),fin _ H (Same.refl _) ?_ ?_ fun y hy=>?_⟩
     ·rw[List.length_append,ltk,ldk];omega
     ·rw[List.length_append,ltk,ldk];omega
     ·rcases List.mem_append.mp hy with z | z
      ·exact mt _ y z
      ·exact md _ y z
    ·walk_at "rd"
     exact⟨b,ns,5,m,rfl,hS,by decide,by decide,m1,m4,fun l2 H2 a b c s2=>fin l2 H2 s2 a b c⟩
   refine⟨by decide,ZcR fun b3 h3=>⟨b3,rfl,ite2 (fun e3=>⟨_,_,rfl,Za2 (by omega),ite2 (fun h=>?_) (fun h=>?_)⟩) (fun e3=>iteF (rest b3 h3 fun z=>absurd z e3))⟩⟩
   ·have l19:l.length<20:=by
     have:=of_decide_eq_true h
     omega
    obtain⟨y,hy,ym⟩:=Zeo (xs:=l) (i:=(k:Int)) (by omega) (by omega)
    refine⟨_,rfl,l,rfl,sz _ (by omega),l,_,y,rfl,rfl,sz _ (by omega),hy,?_⟩
    rw[Zbk]
    refine⟨sz _ (by rw[ltk];omega),_,rfl,l,rfl,sz _ (by omega),?_⟩
    rw[Za5]
    refine⟨sz _ (by rw[List.length_append,ltk,ldk,List.length_singleton];omega),fin _ H (Same.refl _) ?_ ?_ fun z hz=>?_⟩
    ·rw[List.length_append,List.length_append,List.length_singleton];omega
    ·rw[List.length_append,List.length_append,List.length_singleton,ltk,ldk];omega
    ·rcases List.mem_append.mp hz with u | u
     ·rcases List.mem_append.mp u with v | v
      ·exact mt _ z v
      ·rw[List.mem_singleton.mp v];exact ok.mem y ym
     ·exact md _ z u
   ·have l20':l.length=20:=by
     have:¬((l.length:Nat):Int)<20:=fun z=>h (decide_eq_true z)
     omega
    exact rest b3 h3 fun _=>l20'
theorem Zk4:FnScope ["self","text","kinds"] ["self","text","kinds"] (Zah s_KM):=by walk_at "sc"
theorem Ziu (T:Txt K mg a):FnOk P w K mg base CX0 4 a.g_KM a.e_KM ["self","text","kinds"] (ZkK K a):=by
 refine T.fm_KM.ok Zk4 (fun vs H Q E h=>?_) (fun cdv A outer s H vs Q E hr h=>?_)
 ·obtain⟨_,_,_,_,rfl,_⟩:=h;rfl
 ·have hu64:=hr.units
  obtain⟨p,dx,l,m,rfl,hp,ok,q⟩:=h
  refine⟨_,(Zac (Zdp (Zao (Zlz T) (hr.mono (by decide)) rfl T.m_KI T.f_KI.kp T.b_KI .nil Zav (Zaa (pv 2) Zad)))
   (Zac (Za6 (PW.pt (ZdT (ZbJ (ZbI (Zao (Zlv T) (hr.mono (by decide)) rfl T.m_KR T.f_KR.kp T.b_KR .nil Zav (Zaa (pv 1) (Zaa (pv 2) (Zaa (Ze6 rfl T.c_KD) Zad)))))) (Zcy (Zas (ZaG (K:=K) rfl hu64) (pv 1) (ZaW (l:=[]) (by decide +kernel)) (ZaA _))))) (Zag ZjC) Zay)
   (Zag (Zdp (Zhi rfl T.m_K7 T.cr_K7 (Zly T) (hr.mono (by decide)) T.kp_KJ T.b_KJ .nil Zav (Zaa (pv 0) (Zaa (pv 1) (Zaa (pv 2) Zad)))))))),?_⟩
  walk_at "rd"
  have m4:=ok.m4
  have l20:=ok.l20
  refine⟨m,rfl,by omega,ok.k,fun H1 s1=>?_⟩
  walk_at "rd?"
  refine⟨l,m,20,rfl,by omega,fun H2 s2=>?_⟩
  walk_at "rd?"
  rw[Zkb ok,Bool.not_true]
  refine iteF (.inl ⟨rfl,_,rfl,?_⟩)
  rw[if_neg Bool.false_ne_true,ZfQ ok.l1]
  exact iteF ⟨p,dx,l,m,rfl,s1.trans s2 _ _ hp,fun H3 r k=>q H3 r fun b o e ne=>k b o (s1.trans s2 _ _ e) ne⟩
theorem Zjr:FnScope ["_law_one","_law_other","_law_due_here","_law_found"] ["_law_one","_law_other","_law_due_here"] (Zah s_K5):=by walk_at "sc"
theorem Zhl (T:Txt K mg a):FnOk P w K mg base CX0 5 a.f_K5 a.d_K5 ["_law_one","_law_other","_law_due_here"] (ZkV K a):=by
 refine T.f_K5.ok Zjr (fun vs H Q E h=>?_) (fun cdv A outer s H vs Q E hr h=>?_)
 ·obtain⟨_,_,_,_,_,_,_,rfl,_⟩:=h;rfl
 ·have hu64:=hr.units
  obtain⟨p,p2,t,l,m,l2,d,rfl,hp,hp2,ok,ok2,du,ht,q⟩:=h
  refine⟨_,(Zac (Zal (i:=3) Zjr.nd rfl (Or.inl rfl) (Zao (ZjX T) (hr.mono (by decide)) rfl T.m_K9 T.f_K9.kp T.b_K9 .nil Zir (Zaa (pv 0) (Zaa (pv 1) Zad))))
   (Zaj (Zac (Za6 (PW.pt (ZdT (Zas ZjM (pv 2) ZhT (ZaA _)) (ZdT (ZbJ (ZbI (Zak (ZaZ (K:=K) rfl) rfl T.z_isinstance ZaS (Zaa (pv 3) (Zaa (ZcB (v:=.ty "tuple") rfl T.z_tuple ZhH rfl) Zad))))) (Zcy (Zas (ZcC (K:=K) rfl hu64) (pv 3) (pv 2) (ZaA _)))))) (Zag (Zar ZdX)) Zay)
   (Zaj (Zag (Zar (Zlm (Zbu (ZaG (K:=K) rfl hu64) (Zcj (ZeI (K:=K) rfl) (pv 2) Zaf (fun _ _=>rfl)) (ZaW (l:=[117,110,108,105,107,101]) (by decide +kernel)) (ZaA _)) (ZdW (Zao (ZlC T) (hr.mono (by decide)) rfl T.m_K6 T.f_K6.kp T.b_K6 .nil Zav (Zaa (Zcj (ZeI (K:=K) rfl) (pv 3) Zaf (fun _ _=>rfl)) Zad)))))))))),?_⟩
  have sz:∀k:Nat,k≤1000→k≤sizeLine:=fun k h=>Nat.le_trans h (by rw[sizeLine_eq];decide)
  have fl:d.all Za7=true:=by cases du<;>rfl
  walk_at "rd"
  refine⟨p,p2,l,m,l2,m,rfl,hp,hp2,ok,ok2,.inl ⟨rfl,fun t2 d2 H2 s2 du2 h2=>?_⟩⟩
  have ed:=du2.one du
  subst ed
  have ht2:=s2.seqT ht
  show Zb5 _ _ _ _
  refine Zam ?_
  walk_at "rd"
  refine⟨trivial,ite2 (fun h=>absurd (of_decide_eq_true h) (fun h=>by cases h)) (fun _=>⟨_,_,_,_,true,rfl,rfl,.ty (.pl (.tup h2)),Zfb,?_⟩)⟩
  rw[Bool.not_true]
  refine iteF (Zhp (.mk h2) ht2 fl ⟨false,rfl,iteF (Zam ?_)⟩)
  walk_at "rd"
  cases du with
  | same _ _ _=>
   refine⟨t,_,_,_,rfl,rfl,ht2,atI0,ZeK fun k hk=>⟨k,rfl,ite2 (fun h=>absurd (hk.mp h) (by decide)) (fun _=>⟨t2,_,_,_,rfl,rfl,.mk h2,rfl,_,rfl,q H2 s2⟩)⟩⟩
  | unlike _ _=>
   refine⟨t,_,_,_,rfl,rfl,ht2,atI0,ZiR ⟨true,rfl,iteT (q H2 s2)⟩⟩
theorem Zg5:FnScope ["_law_one","_law_other","_law_found","e"] ["_law_one","_law_other"] (Zah s_KT):=by walk_at "sc"
theorem ZjS (T:Txt K mg a):FnOk P w K mg base CX0 5 a.f_KT a.d_KT ["_law_one","_law_other"] (ZkD K a):=by
 refine T.f_KT.ok Zg5 (fun vs H Q E h=>?_) (fun cdv A outer s H vs Q E hr h=>?_)
 ·obtain⟨_,_,_,_,_,_,rfl,_⟩:=h;rfl
 ·have hu64:=hr.units
  obtain⟨p,p2,l,m,l2,m2,rfl,hp,hp2,ok,ok2,ne,q⟩:=h
  refine⟨_,(Zac (Zal (i:=2) Zg5.nd rfl (Or.inl rfl) ZdX)
   (Zac (ZjB rfl rfl (Zhe (Zhd (Zhg (ZjX T) (hr.mono (by decide)) rfl T.m_K9 T.f_K9.kp T.b_K9 .nil (Zaa (pv 0) (Zaa (pv 1) Zad))))) (Zll (i:=3) (fun _=>hr.hd) rfl T.m_KL Zg5.nd rfl rfl (fun _=>(Zag (Zal (i:=2) Zg5.nd rfl (Or.inl rfl) (Zak (ZaZ (K:=K) rfl) rfl T.z_isinstance ZaS (Zaa (pv 3) (Zaa (ZeE (v:=.ref a.c_KU) rfl T.m_KU rfl) Zad)))))) ZjD))
   (Zag (Zar (pv 2))))),?_⟩
  walk_at "rd"
  refine⟨p,p2,l,m,l2,m2,rfl,hp,hp2,ok,ok2,.inr ⟨ne,fun e H2 s2 x2=>?_⟩⟩
  exact⟨e,_,rfl,rfl,true,ZiQ (b:=true) T.k_KU T.k_KL (by simp[List.contains_cons]) (by simp[List.contains_cons]),iteT ⟨_,_,_,_,true,rfl,rfl,.exc x2 T.xi_KU,ZiE T.k_KU T.k_KU (by simp[List.contains_cons]) (fun _=>rfl),q H2 s2⟩⟩
theorem ZbS:FnScope ["_law_script","_law_kinds_here","_law_text","_law_second_here","_law_one","_law_other","_law_due_here","_law_strange","_law_third"] ["_law_script"] (Zah Zik):=by walk_at "sc"
theorem ok_law (T:Txt K mg a):FnOk P w K mg base CX0 6 a.f_law a.d_law ["_law_script"] (spLaw K):=by
 refine T.f_law.ok ZbS (fun vs H Q E h=>?_) (fun cdv A outer s H vs Q E hr h=>?_)
 ·obtain⟨_,_,rfl,_⟩:=h;rfl
 ·have hu64:=hr.units
  obtain⟨b,ns,rfl,hS,hl,q⟩:=h
  refine⟨_,(Zac (Zal (i:=1) ZbS.nd rfl (Or.inl rfl) (Zao (Zlt T) (hr.mono (by decide)) rfl T.m_KV T.f_KV.kp T.b_KV .nil Zav (Zaa (Zao (Zfx T) (hr.mono (by decide)) rfl T.m_K1 T.f_K1.kp T.b_K1 .nil Zav (Zaa (pv 0) (Zaa Zaf Zad))) Zad)))
   (Zaj (Zac (Zal (i:=2) ZbS.nd rfl (Or.inl rfl) (Zao (ZjY T) (hr.mono (by decide)) rfl T.m_K2 T.f_K2.kp T.b_K2 .nil Zav (Zaa (pv 0) (Zaa Zaf (Zaa (pv 1) Zad)))))
   (Zaj (Zac (Zal (i:=3) ZbS.nd rfl (Or.inl rfl) (Zao (Zlq T) (hr.mono (by decide)) rfl T.m_KZ T.f_KZ.kp T.b_KZ .nil Zav (Zaa (pv 0) (Zaa (pv 2) (Zaa (pv 1) Zad)))))
   (Zaj (Zac (Zal (i:=4) ZbS.nd rfl (Or.inl rfl) (ZeD T.mk_K8 (Ziu T) (hr.mono (by decide)) rfl T.m_K8 T.b_KM .nil Zav (Zaa (pv 2) (Zaa (pv 1) Zad))))
   (Zaj (Zac (Zal (i:=5) ZbS.nd rfl (Or.inl rfl) (ZeD T.mk_K8 (Ziu T) (hr.mono (by decide)) rfl T.m_K8 T.b_KM .nil Zav (Zaa (pv 3) (Zaa (pv 1) Zad))))
   (Zaj (Zac (Zal (i:=6) ZbS.nd rfl (Or.inl rfl) (Zao (ZhV T) (hr.mono (by decide)) rfl T.m_due T.f_due.kp T.b_due .nil Zav (Zaa (pv 2) (Zaa (pv 3) Zad))))
   (Zaj (Zac (Za6 (PW.pt (ZdT (ZbJ (ZbI (Zao (Zhl T) (hr.mono (by decide)) rfl T.m_K5 T.f_K5.kp T.b_K5 .nil Zav (Zaa (pv 4) (Zaa (pv 5) (Zaa (pv 6) Zad)))))) (Zcy (ZbJ (ZbI (Zao (Zhl T) (hr.mono (by decide)) rfl T.m_K5 T.f_K5.kp T.b_K5 .nil Zav (Zaa (pv 5) (Zaa (pv 4) (Zaa (Zao (ZhV T) (hr.mono (by decide)) rfl T.m_due T.f_due.kp T.b_due .nil Zav (Zaa (pv 3) (Zaa (pv 2) Zad))) Zad))))))))) (Zag (Zar ZdX)) Zay)
   (Zaj (Zac (Za6 (PW.pt (ZdT (ZbJ (ZbI (Zao (Zhl T) (hr.mono (by decide)) rfl T.m_K5 T.f_K5.kp T.b_K5 .nil Zav (Zaa (pv 4) (Zaa (pv 4) (Zaa (Zc5 (Zaa (ZaW (l:=[115,97,109,101]) (by decide +kernel)) (Zaa (Zao (Zhm T) (hr.mono (by decide)) rfl T.m_K3 T.f_K3.kp T.b_K3 .nil Zav (Zaa (pv 2) Zad)) (Zaa Zaf Zad)))) Zad)))))) (Zcy (ZbJ (ZbI (Zao (Zhl T) (hr.mono (by decide)) rfl T.m_K5 T.f_K5.kp T.b_K5 .nil Zav (Zaa (pv 4) (Zaa (pv 5) (Zaa (pv 6) Zad))))))))) (Zag (Zar ZdX)) Zay)
   (Zaj (Zac (Za6 (Zas (ZcC (K:=K) rfl hu64) (Zbu (ZaG (K:=K) rfl hu64) (Za4 (pv 4) T.cl_K8 T.me_Ring_lacking (ZjW T) (hr.mono (by decide)) T.b_KC .nil Zav) (Za4 (pv 5) T.cl_K8 T.me_Ring_lacking (ZjW T) (hr.mono (by decide)) T.b_KC .nil Zav) (ZaA _)) (Zbu (ZaG (K:=K) rfl hu64) (Zcj (ZeI (K:=K) rfl) (pv 6) Zaf (fun _ _=>rfl)) (ZaW (l:=[115,97,109,101]) (by decide +kernel)) (ZaA _)) (ZaA _)) (Zag (Zar ZdX)) Zay)
   (Zaj (Zac (Zal (i:=7) ZbS.nd rfl (Or.inl rfl) (Zao (Zls T) (hr.mono (by decide)) rfl T.m_KX T.f_KX.kp T.b_KX .nil Zav (Zaa (pv 1) (Zaa (Zao (Zfx T) (hr.mono (by decide)) rfl T.m_K1 T.f_K1.kp T.b_K1 .nil Zav (Zaa (pv 0) (Zaa Zaf Zad))) Zad))))
   (Zaj (Zac (Zal (i:=8) ZbS.nd rfl (Or.inl rfl) (ZeD T.mk_K8 (Ziu T) (hr.mono (by decide)) rfl T.m_K8 T.b_KM .nil Zav (Zaa (Zcj ZfE (pv 7) Zaf (fun _ _=>rfl)) (Zaa (pv 7) Zad))))
   (Zaj (Zac (Za6 (PW.pt (ZdT (ZbJ (ZbI (Zao (ZjS T) (hr.mono (by decide)) rfl T.m_KT T.f_KT.kp T.b_KT .nil Zav (Zaa (pv 4) (Zaa (pv 8) Zad))))) (Zcy (ZbJ (ZbI (Zao (ZjS T) (hr.mono (by decide)) rfl T.m_KT T.f_KT.kp T.b_KT .nil Zav (Zaa (pv 8) (Zaa (pv 4) Zad)))))))) (Zag (Zar ZdX)) Zay)
   (Zaj (Zag (Zar (ZdY (Zbu (ZaG (K:=K) rfl hu64) (Za4 (pv 4) T.cl_K8 T.me_Ring_text (ZjU T) (hr.mono (by decide)) T.b_KK .nil Zav) (pv 2) (ZaA _)) (ZdW (Zbu (ZaG (K:=K) rfl hu64) (Za4 (pv 5) T.cl_K8 T.me_Ring_text (ZjU T) (hr.mono (by decide)) T.b_KK .nil Zav) (pv 3) (ZaA _)))))))))))))))))))))))))))))),?_⟩
  have sz:∀k:Nat,k≤1000→k≤sizeLine:=fun k h=>Nat.le_trans h (by rw[sizeLine_eq];decide)
  walk_at "rd"
  refine⟨b,ns,0,rfl,hS,by decide,by decide,fun r0=>⟨_,rfl,fun m mk m1 m4=>Zam ?_⟩⟩
  walk_at "rd"
  refine⟨b,ns,1,m,rfl,hS,by decide,by decide,m1,m4,fun l H1 l1 l20 lm s1=>?_⟩
  have ok:RingOk l m:=⟨mk,m1,m4,l1,l20,lm⟩
  show Zb5 _ _ _ _
  refine Zam ?_
  walk_at "rd"
  refine⟨b,ns,l,m,rfl,s1.seq hS,ok,fun l2 H2 ok2 s2=>?_⟩
  show Zb5 _ _ _ _
  refine Zam ?_
  walk_at "rd"
  intro pr dr npr ndr ner
  refine⟨pr,dr,l,m,rfl,ZaH,ok,fun H3 r3 k3=>⟨rfl,?_⟩⟩
  have s3:Same H2 H3:=fun b o e=>k3 b o (by rw[Zau (Zap e npr),Zau (Zap e ndr)];exact e) (Zap e npr)
  refine Zam ?_
  walk_at "rd"
  intro pt dt npt ndt net
  refine⟨pt,dt,l2,m,rfl,ZaH,ok2,fun H4 r4 k4=>⟨rfl,?_⟩⟩
  have s4:Same H3 H4:=fun b o e=>k4 b o (by rw[Zau (Zap e npt),Zau (Zap e ndt)];exact e) (Zap e npt)
  have r34:=r3.same s4
  refine Zam ?_
  walk_at "rd"
  refine⟨l,l2,rfl,l1,l20,ok2.l1,ok2.l20,fun td d H5 s5 du h5=>?_⟩
  show Zb5 _ _ _ _
  refine Zam ?_
  have r35:=r34.same s5
  have r45:=r4.same s5
  walk_at "rd"
  refine⟨pr,pt,td,l,m,l2,d,rfl,r35,r45,ok,ok2,du,.mk h5,fun H6 s6=>⟨true,rfl,iteF ?_⟩⟩
  refine⟨l2,l,rfl,ok2.l1,ok2.l20,l1,l20,fun te d2 H7 s7 du2 h7=>⟨pt,pr,te,l2,m,l,d2,rfl,(r45.same s6).same s7,(r35.same s6).same s7,ok2,ok,du2,.mk h7,fun H8 s8=>⟨true,rfl,iteF (Zam ?_)⟩⟩⟩
  have s58:=(s6.trans s7).trans s8
  have r38:=r35.same s58
  have r48:=r45.same s58
  have h58:=s58 _ _ h5
  have rp:=Zax l1
  have self:DueR l l [tx [115,97,109,101],tx (rootOf l),.int ((0:Nat):Int)]:=.same (by omega) (by unfold TurnAt;simp) (fun j hj=>by omega)
  walk_at "rd"
  refine⟨l,rfl,l1,l20,sz _ (by decide),NewT.of fun tf H9 s9 n9 h9=>⟨pr,pr,tf,l,m,l,_,rfl,r38.same s9,r38.same s9,ok,ok,self,.mk h9,fun HA sA=>⟨true,rfl,iteF ?_⟩⟩⟩
  have s8A:=s9.trans sA
  refine⟨pr,pt,td,l,m,l2,d,rfl,r38.same s8A,r48.same s8A,ok,ok2,du,.mk (s8A _ _ h58),fun HB sB=>⟨true,rfl,iteF (Zam ?_)⟩⟩
  have s5B:=s58.trans (s8A.trans sB)
  have h5B:=s5B _ _ h5
  obtain⟨d3,e3⟩:=r35.same s5B
  obtain⟨d4,e4⟩:=r45.same s5B
  have s0B:=((((s1.trans s2).trans s3).trans s4).trans s5).trans s5B
  clear self
  walk_at "rd"
  refine⟨pr,d3,_,rfl,e3,ZaR (by decide +kernel) (by decide +kernel),pr,l,m,rfl,⟨d3,e3⟩,ok,fun pf HC sC nC hC=>⟨pt,d4,_,rfl,sC _ _ e4,ZaR (by decide +kernel) (by decide +kernel),pt,l2,m,rfl,⟨d4,sC _ _ e4⟩,ok2,fun pg HD sD nD hD=>?_⟩⟩
  refine ZgI (.mk (sD _ _ hC)) (.mk hD) ?_
  have sBD:=sC.trans sD
  have lt:=Zgt (m:=m) l1 ok2.l1 lm ok2.mem
  have tag:∃tg r,d=tx tg::r∧decide (Zba l m (Zae l)=Zba l2 m (Zae l2))=decide (tg=[115,97,109,101]):=by
   cases du with
   | same hk t _=>exact⟨_,_,rfl,by rw[decide_eq_true (lt.mpr ⟨_,hk,t⟩),decide_eq_true rfl]⟩
   | unlike n _=>exact⟨_,_,rfl,by rw[decide_eq_false (fun z=>n (lt.mp z))];rfl⟩
  obtain⟨tg,r,rfl,et⟩:=tag
  rw[et]
  refine⟨td,_,_,_,rfl,rfl,.mk (sBD _ _ h5B),atI0,.inl ⟨rfl,?_⟩⟩
  rw[if_neg Bool.false_ne_true]
  have ett:decide (tx tg=tx [115,97,109,101])=decide (tg=[115,97,109,101]):=by rw[decide_eq_decide,ZbQ]
  rw[ett]
  refine Zhq ⟨false,rfl,iteF (Zam ?_)⟩
  clear lt et ett
  walk_at "rd"
  refine⟨b,ns,4,rfl,(s0B.trans sBD).seq hS,by decide,by decide,fun r4=>⟨m,r4,rfl,ok.kok,fun m2 HE k2 n2 sE=>?_⟩⟩
  have g3:=sE _ _ (sBD _ _ e3)
  have g4:=sE _ _ (sBD _ _ e4)
  obtain⟨x,hx,xm⟩:=Zeo (xs:=m2) (i:=0) (Int.le_refl _) (by have:=k2.m1;omega)
  have ok3:RingOk [x] m2:=⟨k2.k,k2.m1,k2.m4,by simp,by simp,fun y hy=>by rw[List.mem_singleton.mp hy];exact xm⟩
  show Zb5 _ _ _ _
  refine Zam ?_
  walk_at "rd"
  refine⟨m2,0,x,rfl,rfl,sz _ (by have:=k2.m4;omega),hx,fun pu dv npu ndu neu=>⟨pu,dv,[x],m2,rfl,ZaH,ok3,fun HF rF kF=>⟨rfl,Zam ?_⟩⟩⟩
  have sF:Same HE HF:=fun b o e=>kF b o (by rw[Zau (Zap e npu),Zau (Zap e ndu)];exact e) (Zap e npu)
  have f3:=sF _ _ g3
  have f4:=sF _ _ g4
  walk_at "rd"
  refine⟨pr,pu,l,m,[x],m2,rfl,⟨d3,f3⟩,rF,ok,ok3,Ne.symm n2,fun HG sG=>⟨true,rfl,iteF ⟨pu,pr,[x],m2,l,m,rfl,rF.same sG,⟨d3,sG _ _ f3⟩,ok3,ok,n2,fun HI sI=>⟨true,rfl,iteF (Zam ?_)⟩⟩⟩⟩
  have i3:=sI _ _ (sG _ _ f3)
  have i4:=sI _ _ (sG _ _ f4)
  walk_at "rd"
  refine⟨pr,d3,_,rfl,i3,ZaR (by decide +kernel) (by decide +kernel),pr,l,m,rfl,⟨d3,i3⟩,ZiR ⟨true,rfl,iteT ⟨pt,d4,_,rfl,i4,ZaR (by decide +kernel) (by decide +kernel),pt,l2,m,rfl,⟨d4,i4⟩,ZiR (q HI)⟩⟩⟩
end
end Pk74
namespace PySem.W.Fast
def tw10004533939250327822:=0
def tw10061308176385054187:=0
def tw10084349976208064215:=0
def tw10139783865589920663:=0
def tw10157355776241410244:=0
def tw10206700150074823792:=0
def tw10348586391445635432:=0
def tw10541212126116340251:=0
def tw10573490888188950269:=0
def tw10602197795854113916:=0
def tw10612082868839357895:=0
def tw10720549304545361985:=0
def tw10802451206306573546:=0
def tw1087901960777337752:=0
def tw10894060822834277868:=0
def tw1092573065752220027:=0
def tw10950240546202132106:=0
def tw10955412686492155325:=0
def tw11015040235337845208:=0
def tw11036819984326156951:=0
def tw11051011377532532457:=0
def tw11068965340643280347:=0
def tw11124480846891137086:=0
def tw11177561325154379283:=0
def tw11211453014112727145:=0
def tw11240691925392545597:=0
def tw11362892376570423759:=0
def tw113755257429932629:=0
def tw11559811023066893475:=0
def tw11641944643934542637:=0
def tw1171663726252660991:=0
def tw11763641013723113581:=0
def tw11831362017744134046:=0
def tw11931007345689620711:=0
def tw11961566753360070580:=0
def tw1198505613266702525:=0
def tw12030059030810585997:=0
def tw12077867308877015477:=0
def tw12169568855348001007:=0
def tw12233490118837742234:=0
def tw12299135261052319962:=0
def tw1232662491005362462:=0
def tw12372381318980098509:=0
def tw12373258290618671639:=0
def tw12487160593947780869:=0
def tw12532198968051954367:=0
def tw12545262392704944782:=0
def tw12651373302389778819:=0
def tw1266528743130868947:=0
def tw1272348566274188228:=0
def tw12761802901909064565:=0
def tw12828228367526282932:=0
def tw13033552046022002081:=0
def tw1311452105547109212:=0
def tw13267285916881711691:=0
def tw133166436510506031:=0
def tw13509154076097792124:=0
def tw13644662841686402477:=0
def tw13708150359337180790:=0
def tw13737165145337589393:=0
def tw13755679260000271464:=0
def tw13758555708841808865:=0
def tw13759338499383021202:=0
def tw13896819365581083479:=0
def tw1390751532887878116:=0
def tw13915143411040361138:=0
def tw13983263751413701635:=0
def tw14000964619080223225:=0
def tw14062940700043491174:=0
def tw14169387208895810542:=0
def tw14207882965169684511:=0
def tw14210725951872994178:=0
def tw14230383213293093999:=0
def tw14382572145471688908:=0
def tw14407040197858603979:=0
def tw14457716195709712607:=0
def tw14561746103469939028:=0
def tw14654500188918532315:=0
def tw14659385799729026129:=0
def tw14758829093222605892:=0
def tw14863978998171067205:=0
def tw14870535782650708375:=0
def tw14988855192852811587:=0
def tw15040490239525217019:=0
def tw1506881240977944086:=0
def tw15093248817623154829:=0
def tw15149274505368308652:=0
def tw15157390212028270625:=0
def tw15164408303122221274:=0
def tw15165800464400273107:=0
def tw15232646899262061725:=0
def tw15247778794059934005:=0
def tw15265333692534462901:=0
def tw1531264086193076530:=0
def tw15313712499069577498:=0
def tw15316690858798925009:=0
def tw15322902774144402535:=0
def tw15380456544809172785:=0
def tw15393019714075249784:=0
def tw15406889307681077606:=0
def tw15447006617908182526:=0
def tw15505090636113938388:=0
def tw15531631922665670606:=0
def tw15555982576162560977:=0
def tw15571544378886606931:=0
def tw15584887631059016148:=0
def tw15694866548339481005:=0
def tw15696127185549348065:=0
def tw15723325435950064183:=0
def tw1587075475605411632:=0
def tw15885505817134377307:=0
def tw15901362403421819895:=0
def tw15956023328615674950:=0
def tw15969153200616377523:=0
def tw15998459967129408247:=0
def tw16102083856812669524:=0
def tw1610352035381336097:=0
def tw16140012470267709546:=0
def tw16155773814217323101:=0
def tw16179940206992105958:=0
def tw16180839701942431387:=0
def tw16228005750349600591:=0
def tw16305950213019942495:=0
def tw16318800239072252255:=0
def tw16393055211708924390:=0
def tw16475205538219075611:=0
def tw1652686760068946481:=0
def tw16549922827199091367:=0
def tw16597594120695715698:=0
def tw16619081385730986643:=0
def tw16627924296252731521:=0
def tw16628087110023758722:=0
def tw16634010211789579428:=0
def tw16662080745041168905:=0
def tw1678348531220888958:=0
def tw16814131052019240678:=0
def tw16831158834068210989:=0
def tw16898638637337636733:=0
def tw17106930030703102363:=0
def tw17171222520688360634:=0
def tw17269767891390103268:=0
def tw17325173136701410150:=0
def tw17347056989602706720:=0
def tw17408930975260186603:=0
def tw17435818653251047222:=0
def tw17440112422354340380:=0
def tw17445763233027889909:=0
def tw17525728884248780125:=0
def tw17823868037822016587:=0
def tw17932313954153009906:=0
def tw1794082339646218294:=0
def tw17977895613456644230:=0
def tw18026187420084600542:=0
def tw18057243698213829676:=0
def tw18083068919659087475:=0
def tw18114076589473954943:=0
def tw18178266861567200856:=0
def tw18194093725535631858:=0
def tw1826271583873908811:=0
def tw18289655509092176836:=0
def tw18318991448143813575:=0
def tw18324955463966265630:=0
def tw18400116117517321721:=0
def tw18408367147381721046:=0
def tw18428366948729712947:=0
def tw1866231913638687486:=0
def tw190898797867732281:=0
def tw1944669885479115223:=0
def tw1986678155565933775:=0
def tw2027624465605416440:=0
def tw2108507680396371736:=0
def tw228886067625053224:=0
def tw230746419280605912:=0
def tw2334926735899051986:=0
def tw2354456986980021960:=0
def tw2367663583346375996:=0
def tw2511499706123664928:=0
def tw2563718770043541634:=0
def tw2580321552490406770:=0
def tw2605264420569401145:=0
def tw265705881351598802:=0
def tw2696158444702758777:=0
def tw2705534888715510458:=0
def tw2803760439787882709:=0
def tw2805048866313922540:=0
def tw3036180610874553183:=0
def tw3117628936018887154:=0
def tw3178128210520912503:=0
def tw3244242330554829588:=0
def tw3249157940323227992:=0
def tw3271232384762852916:=0
def tw3272483787187539103:=0
def tw3308128226094894004:=0
def tw3370210146187569030:=0
def tw337451245008109192:=0
def tw3534102953956187142:=0
def tw3534827326118071229:=0
def tw3586505030173092609:=0
def tw3591944168980078328:=0
def tw3600149461109878879:=0
def tw3628844160520005337:=0
def tw3691309505132176816:=0
def tw3721456145843421068:=0
def tw3779801952945241871:=0
def tw3795877315062215280:=0
def tw3803843967853959207:=0
def tw3909987054891431935:=0
def tw3913956727529050394:=0
def tw3924326250310829693:=0
def tw3960677898477706659:=0
def tw3998827139559303417:=0
def tw4003429061396231751:=0
def tw4042431285763598872:=0
def tw4076021540059618239:=0
def tw4093207701555764950:=0
def tw4141946206448206643:=0
def tw4164491157259027602:=0
def tw4172466149265005942:=0
def tw4187848781815142512:=0
def tw4211289517407280104:=0
def tw4234407286539765144:=0
def tw4251032132384349676:=0
def tw4261022077494134095:=0
def tw4396825938315031928:=0
def tw4422455299384619847:=0
def tw4556567488332746406:=0
def tw4596612091695314027:=0
def tw469699601769060184:=0
def tw4712720688903115942:=0
def tw4713342532347582439:=0
def tw4794912361707957425:=0
def tw4859344579023848117:=0
def tw4872812466395297560:=0
def tw4933547810238134936:=0
def tw4934399016442433359:=0
def tw4963084799947744522:=0
def tw4979197116099796570:=0
def tw5044353990114881346:=0
def tw5245427943349354311:=0
def tw5297694561563394214:=0
def tw530905082049109277:=0
def tw5315167072657742493:=0
def tw5361476696886121893:=0
def tw5454648832512339093:=0
def tw5512305150093092279:=0
def tw5514025696918812299:=0
def tw5551163912281736687:=0
def tw5575076175508307084:=0
def tw5623260581572064670:=0
def tw5676721237184950351:=0
def tw5743010305164809429:=0
def tw5749213504178533984:=0
def tw5754921161631212762:=0
def tw5760303448720310310:=0
def tw5795956607796713905:=0
def tw5805121031055191134:=0
def tw5894798308165515713:=0
def tw5950045842214325904:=0
def tw5979661050456539551:=0
def tw59889359948643044:=0
def tw6051027653063994290:=0
def tw6126964003978035813:=0
def tw6240734893397290118:=0
def tw6249224880311965682:=0
def tw6323623244103241775:=0
def tw637213933668043987:=0
def tw6391193003970588978:=0
def tw641591842880070510:=0
def tw6518735022076764424:=0
def tw6523023159341124601:=0
def tw6608566758457593998:=0
def tw6623262138153958311:=0
def tw6630209330938273576:=0
def tw6666745040060834312:=0
def tw6686651293634161568:=0
def tw669934413311609232:=0
def tw6864656769415392588:=0
def tw6871398345589807024:=0
def tw6885873296071129314:=0
def tw688621292894501043:=0
def tw6991987785612459461:=0
def tw7151723275259326163:=0
def tw7167866881183966903:=0
def tw717587413685859023:=0
def tw7326906517905142800:=0
def tw7333086953908324867:=0
def tw7391389792859181518:=0
def tw7418263135664288687:=0
def tw7491330039187894232:=0
def tw7498493238953631591:=0
def tw7565391337347391993:=0
def tw7664619348978652823:=0
def tw7850820596448227589:=0
def tw7852632565977869090:=0
def tw7854103903015546072:=0
def tw7965164265636042032:=0
def tw8026932436037168135:=0
def tw8061954159395765796:=0
def tw8142175710637473670:=0
def tw8162126235886614619:=0
def tw8197468083530971906:=0
def tw8243539506809912679:=0
def tw8247727396428463724:=0
def tw8263205186377219673:=0
def tw8402684149080674665:=0
def tw8466823103974518757:=0
def tw8474573470547565960:=0
def tw8563720859578286158:=0
def tw8589492669811493199:=0
def tw8598071176862304262:=0
def tw8606377485571703061:=0
def tw8628349361314698098:=0
def tw88823478863245321:=0
def tw9062153895620695716:=0
def tw9109900404419848030:=0
def tw913022305201768669:=0
def tw9182005281137719739:=0
def tw9327460753396159337:=0
def tw935702617864346678:=0
def tw9361190160610115829:=0
def tw9381009033962002749:=0
def tw9537287594549443139:=0
def tw9562772470655073447:=0
def tw9641103819756896381:=0
def tw9778082873327804562:=0
def tw9810684000877875662:=0
def tw988810511146151192:=0
def tw9938638976323704756:=0
def tw9986024167982085735:=0
end PySem.W.Fast
open PySem PySem.W PyProof.Rows
set_option maxRecDepth 100000 in
set_option maxHeartbeats 0 in
theorem PySem.Challenge.cw_lackword_k74_whole_rings_the_same_holds : PySem.Challenge.rw_lackword_k74_whole_rings_the_same.Holds := by
 w_on;o_law;k_head;(case hw=>w_witness2)
 k_fill
 refine L2.walk_ofK (l:=PySem.Challenge.rw_lackword_k74_whole_rings_the_same) (n:=63) (k:=6) (x:="_law_script") (CX:=L2.CX0) (sp:=Pk74.spLaw) rfl (by decide) rfl ⟨rfl,by decide,by decide⟩ (fun w h Y=>PySem.W.kIn_of Y) ?F ?S ?C
 case F=>
  intro w mg fa h KX G hmg
  have T:∃t,Pk74.Txt (L2.KOf KX) mg t:=by
   dsimp only[L2.KOf]
   apply Pk74.txt_mk KX G
   (apply L2.xg_mk;(iterate 2 k_is);rfl;(iterate 10 k_is);rfl;rfl)
   iterate 4 k_is
   (apply L2.xg_mk;(iterate 2 k_is);rfl;(iterate 10 k_is);rfl;rfl)
   iterate 33 k_is
   iterate 9 (apply L2.mg_mk;iterate 4 k_is)
   decide
   iterate 22 (apply L2.dg_mk;iterate 4 k_is)
   iterate 16 k_is
  obtain⟨t,T⟩:=T
  have e0:=hmg.symm.trans T.m_law
  cases e0
  refine' ⟨_,?b,fun base kb nb=>Pk74.ok_law T⟩
  exact T.bl
 case S=>exact fun K H a ns hl hO hS=>⟨a,ns,rfl,hS,hl,fun _=>rfl⟩
 case C=>exact fun _ _ _ _ z=>z
#print axioms PySem.Challenge.cw_lackword_k74_whole_rings_the_same_holds
