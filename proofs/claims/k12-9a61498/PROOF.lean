import PyProof.Rows.All
import Wide.All
import OpenK.AllK
import Wide.FinOn
import Lean
import PyProof.EqAt
import PyProof.EqKinds
import PyProof.TupleCall
import PyProof.SetRoads
import PyProof.Rows.SetFrom
import PyProof.StrWalks
import PyProof.FactsAll.set
import PyProof.FactsAll.subtypes_3
import PyProof.CollectWalk
import PyProof.CollectStr
import PyProof.StationsW
import PyProof.RulesAs
import KE.KTryMore
import PyProof.NsDelKeeps
import PyProof.ListStr
import PyProof.TupleOfStr
import PyProof.ConsumeS
import KE.KEqDict
import PyProof.DictWalks
import PyProof.DictUpdate
import KE.KLam
import PyProof.DictDisplay
import PyProof.ListRange
import PyProof.Rows.StrNews2
import PyProof.Rows.Range3
import KE.KDictLaws
import KE.KDictList
import PyProof.DictRoadsH
import KE.KDictSum
import PyProof.DictItems
import PyProof.DictItemsLoops
import KE.KPairComp
import PySem.Challenge.RW_lackword_k12_rooms_numbered
set_option Elab.async false
set_option linter.all false
set_option maxRecDepth 100000
namespace L2
open PySem PySem.Spec PyProof.Rows
abbrev Key:=Sum Int Str
def Zdu:Key→Value→Bool
 | .inl k,v=>Value.isInt k v
 | .inr x,v=>Value.isStrOf x v
def keyH (w:World):Key→Int
 | .inl k=>hashInt k
 | .inr x=>hashStr w x
theorem ZaF:∀ {k:Key} {v:Value},Zdu k v=true→(∃i t,k=Sum.inl i∧v=Value.int i t)∨(∃x t,k=Sum.inr x∧v=Value.str x t)
 | .inl i,v,h=>by
  obtain⟨t,e⟩:=Value.isInt_shape (k:=i) (v:=v) h
  exact .inl ⟨i,t,rfl,e⟩
 | .inr x,v,h=>by
  obtain⟨t,e⟩:=Value.isStrOf_shape (x:=x) (v:=v) h
  exact .inr ⟨x,t,rfl,e⟩
theorem ZgV (i:Int)(t:Tok):Zdu (.inl i) (.int i t)=true:=by simp[Zdu,Value.isInt]
theorem ZgU (x:Str)(t:Tok):Zdu (.inr x) (.str x t)=true:=by simp[Zdu,Value.isStrOf]
theorem ZkP (a b:Int):decide ((Sum.inl a:Key)=Sum.inl b)=(a == b):=by
 by_cases e:a=b
 ·subst e;simp
 ·have h:¬(Sum.inl a:Key)=Sum.inl b:=fun q=>e (Sum.inl.inj q)
  rw[decide_eq_false h]
  exact(beq_eq_false_iff_ne.mpr e).symm
theorem ZkM (a b:Str):decide ((Sum.inr a:Key)=Sum.inr b)=decide (a=b):=by
 by_cases e:a=b
 ·subst e;simp
 ·have h:¬(Sum.inr a:Key)=Sum.inr b:=fun q=>e (Sum.inr.inj q)
  rw[decide_eq_false h,decide_eq_false e]
theorem ZkO (a:Int)(b:Str):decide ((Sum.inl a:Key)=Sum.inr b)=false:=decide_eq_false (fun q=>nomatch q)
theorem ZkN (a:Str)(b:Int):decide ((Sum.inr a:Key)=Sum.inl b)=false:=decide_eq_false (fun q=>nomatch q)
def Zap (prog:Program)(w:World):PySem.KeyKind prog w Key where
 is:=Zdu
 hash:=keyH w
 inj:=fun v a b ha hb=>by
  rcases ZaF ha with⟨i,t,rfl,rfl⟩|⟨x,t,rfl,rfl⟩
  ·rcases ZaF hb with⟨j,u,rfl,e⟩|⟨y,u,rfl,e⟩
   ·injection e with e1 _;rw[e1]
   ·exact nomatch e
  ·rcases ZaF hb with⟨j,u,rfl,e⟩|⟨y,u,rfl,e⟩
   ·exact nomatch e
   ·injection e with e1 _;rw[e1]
 byValue:=fun k v h=>by
  rcases ZaF h with⟨i,t,rfl,rfl⟩|⟨x,t,rfl,rfl⟩<;>rfl
 pyHash:=fun hv h=>by
  rcases ZaF hv with⟨i,t,rfl,rfl⟩|⟨x,t,rfl,rfl⟩
  ·exact wpAny_pyHash_int h
  ·exact wpAny_pyHash_str h
 eqBool:=fun hu hv h=>by
  rcases ZaF hu with⟨i,t,rfl,rfl⟩|⟨x,t,rfl,rfl⟩
  ·rcases ZaF hv with⟨j,u,rfl,rfl⟩|⟨y,u,rfl,rfl⟩
   ·rw[ZkP]at h;exact wpAny_eqBool_int h
   ·rw[ZkO]at h;exact SeqAt.EqAt.int_str i t y u _ _ _ _ h
  ·rcases ZaF hv with⟨j,u,rfl,rfl⟩|⟨y,u,rfl,rfl⟩
   ·rw[ZkN]at h;exact SeqAt.EqAt.str_int x t j u _ _ _ _ h
   ·rw[ZkM]at h;exact wpAny_eqBool_str h
 «strs»:=fun k x t v h=>by
  rcases ZaF h with⟨i,u,rfl,e⟩|⟨y,u,rfl,e⟩
  ·exact nomatch e
  ·injection e with e1 _
   subst e1
   cases v<;>rfl
theorem ZeC (prog:Program)(w:World)(i:Int)(t:Tok):(Zap prog w).is (.inl i) (.int i t)=true:=ZgV i t
theorem Zct (prog:Program)(w:World)(x:Str)(t:Tok):(Zap prog w).is (.inr x) (.str x t)=true:=ZgU x t
inductive V where
 | non | bl (b:Bool) | int (i:Int) | str (x:Str) | byt (b:Array UInt8) | flt (b:UInt64) | ref (a:Addr) | ty (n:String)
 deriving DecidableEq
def RelV:V→Value→Prop
 | .non,u=>u=Value.none
 | .bl b,u=>u=Value.bool b
 | .int i,u=>∃t,u=Value.int i t
 | .str x,u=>∃t,u=Value.str x t
 | .byt b,u=>∃t,u=Value.bytes b t
 | .flt b,u=>∃t,u=Value.float b t
 | .ref a,u=>u=Value.ref a
 | .ty n,u=>u=Value.type n
abbrev Vals:List V→List Value→Prop:=Paired RelV
theorem Vals.length {xs:List V}{us:List Value}(r:Vals xs us):xs.length=us.length:=Paired.length r
theorem Vals.get:∀ {xs:List V} {us:List Value} {i:Nat} {x:V},Vals xs us→xs[i]?=some x→∃u,us[i]?=some u∧RelV x u
 | _,_,_,_,.nil,e=>by simp at e
 | _,_,0,_,.cons r _,e=>by simp at e;subst e;exact⟨_,rfl,r⟩
 | _,_,i+1,x,.cons _ t,e=>by
  obtain⟨u,h1,h2⟩:=Vals.get (i:=i) (x:=x) t (by simpa using e)
  exact⟨u,by simpa using h1,h2⟩
theorem Vals.append:∀ {xs ys:List V} {us ws:List Value},Vals xs us→Vals ys ws→Vals (xs++ys) (us++ws)
 | _,_,_,_,.nil,s=>s
 | _,_,_,_,.cons r t,s=>.cons r (Vals.append t s)
theorem Vals.take:∀ {xs:List V} {us:List Value} (n:Nat),Vals xs us→Vals (xs.take n) (us.take n)
 | _,_,0,_=>.nil
 | _,_,_+1,.nil=>.nil
 | _,_,n+1,.cons r t=>.cons r (Vals.take n t)
theorem Vals.drop:∀ {xs:List V} {us:List Value} (n:Nat),Vals xs us→Vals (xs.drop n) (us.drop n)
 | _,_,0,r=>r
 | _,_,_+1,.nil=>.nil
 | _,_,n+1,.cons _ t=>Vals.drop n t
def RelO:Option V→Option Value→Prop
 | some v,some u=>RelV v u
 | none,none=>True
 | _,_=>False
def KV {κ:Type}:List (κ×V)→List (κ×Value)→Prop:=Paired fun (p:κ×V) (q:κ×Value)=>p.1=q.1∧RelV p.2 q.2
def kV:Key→V
 | .inl i=>.int i
 | .inr x=>.str x
inductive HO where
 | lst (xs:List V)
 | tup (xs:List V)
 | dK (kvs:List (Key×V)) | dT (kvs:List (List Key×V))
 | set (S:Int→Bool) (n:Nat)
 | ins (C dx:Addr) (fs:List (Str×V))
 | own (x:Addr)
 | xd (fs:List (Str×V))
 | met (f x:Addr)
 | rng (lo hi:Int)
 | frz (o:Obj) (u:HO)
 | tbl (ps:Array Value)
 | ext (φ:Heap→Prop)
abbrev Hp:=Addr→Option HO
def upd (H:Hp)(a:Addr)(o:HO):Hp:=fun b=>if b=a then some o else H b
theorem Zaf {H:Hp}{a:Addr}{o:HO}:upd H a o a=some o:=by unfold upd;rw[if_pos rfl]
theorem Zac {H:Hp}{a b:Addr}{o:HO}(h:b≠a):upd H a o b=H b:=by unfold upd;rw[if_neg h]
theorem Zjg {H:Hp}{a b:Addr}{o u:HO}(h:H a=some o)(h':H b=some u)(d:o≠u):a≠b:=by
 intro e;subst e;rw[h]at h';exact d (Option.some.inj h')
theorem Zah {H:Hp}{a b:Addr}{o:HO}(h:H a=some o)(h':H b=none):a≠b:=by
 intro e;subst e;rw[h]at h';cases h'
section
variable (P:Program)(w:World)
def ObjOk (H:Hp)(h:Heap)(a:Addr):HO→Prop
 | .lst xs=>xs.length≤sizeLine∧∃(its:List Value) (n:Nat),Vals xs its∧h.get? a=some { cls:=.type "list",data:=.seq its.toArray n }
 | .tup xs=>xs.length≤sizeLine∧∃its:List Value,Vals xs its∧IsTup h a its.toArray
 | .dK kvs=>kvs.length≤sizeLine∧(a == sysModules)=false∧∃vs,KV kvs vs∧h.DictOf (Zap P w) a vs
 | .dT kvs=>kvs.length≤sizeLine∧(a == sysModules)=false∧∃xs:List (List Key×Addr×Value),
   Paired (fun (p:List Key×V) (q:List Key×Addr×Value)=>p.1=q.1∧H q.2.1=some (.tup (p.1.map kV))∧RelV p.2 q.2.2) kvs xs ∧
   ∃o es ep,h.get? a=some o∧o.ExactDict∧o.data=.dict es ep∧es.toList=xs.map (entryOfKey (tupleKind (Zap P w)))∧(xs.map (·.1)).Nodup
 | .set S n=>h.SetOf (intKind P w) a S n
 | .ins C dx fs=>H dx=some (.own a)∧fs.length≤1000∧dx≠a∧h.get? a=some (PySem.W.instObj C dx) ∧
   ∃mA,h.Ns1 dx mA∧(∀f,RelO (fs.lookup f) (mA f))∧PySem.Within mA (fs.map (·.1))
 | .own _=>∃o,h.get? a=some o
 | .xd fs=>∃mA,h.Ns1 a mA∧∀f,RelO (fs.lookup f) (mA f)
 | .rng lo hi=>∃t u v,h.get? a=some { cls:=.type "range",data:=.fields #[.int lo t,.int hi u,.int 1 v] }
 | .frz o u=>h.get? a=some o∧ObjOk H h a u
 | .tbl ps=>h.get? a=some { cls:=.none,data:=.fields ps }
 | .met f x=>h.get? a=some (PySem.W.methodObj (.ref f) (.ref x))
 | .ext φ=>φ h∧(∃o,h.get? a=some o)∧∀h1 h2:Heap,φ h1→(∀o,h1.get? a=some o→h2.get? a=some o)→φ h2
def HOk (H:Hp)(h:Heap):Prop:=∀a o,H a=some o→ObjOk P w H h a o
end
section
variable {P:Program}{w:World}{H H':Hp}{h h':Heap}{a:Addr}{o:HO}
theorem ObjOk.lt (x:ObjOk P w H h a o):a<h.objs.size:=by
 cases o with
 | lst xs=>obtain⟨_,_,_,_,e⟩:=x;exact Heap.lt_size e
 | tup xs=>obtain⟨_,_,_,p⟩:=x;exact p.lt
 | dK kvs=>obtain⟨_,_,_,_,o,_,_,e,_⟩:=x;exact Heap.lt_size e
 | dT kvs=>obtain⟨_,_,_,_,o,_,_,e,_⟩:=x;exact Heap.lt_size e
 | set S n=>obtain⟨o,_,_,_,e,_⟩:=x;exact Heap.lt_size e
 | ins C dx fs=>obtain⟨_,_,_,e,_⟩:=x;exact Heap.lt_size e
 | own y=>obtain⟨_,e⟩:=x;exact Heap.lt_size e
 | xd fs=>obtain⟨_,⟨_,_,_,e,_⟩,_⟩:=x;exact Heap.lt_size e
 | rng lo hi=>obtain⟨_,_,_,e⟩:=x;exact Heap.lt_size e
 | frz ob u=>obtain⟨e,_⟩:=x;exact Heap.lt_size e
 | tbl ps=>exact Heap.lt_size (show h.get? a=some _ from x)
 | met f y=>exact Heap.lt_size (show h.get? a=some _ from x)
 | ext φ=>obtain⟨_,⟨_,e⟩,_⟩:=x;exact Heap.lt_size e
theorem Paired.mapP {α β:Type}{F G:α→β→Prop}:∀ {l₁:List α} {l₂:List β},Paired F l₁ l₂→(∀a b,F a b→G a b)→Paired G l₁ l₂
 | _,_,.nil,_=>.nil
 | _,_,.cons r t,f=>.cons (f _ _ r) (Paired.mapP t f)
theorem ObjOk.stay (x:ObjOk P w H h a o)(k:∀b u,(b=a∨H b=some (.own a))→h.get? b=some u→h'.get? b=some u)
  (ho:∀b,H b=some (.own a)→H' b=some (.own a)) (ht:∀b xs,H b=some (.tup xs)→H' b=some (.tup xs)):ObjOk P w H' h' a o:=by
 induction o with
 | lst xs=>obtain⟨z,its,n,r,e⟩:=x;exact⟨z,its,n,r,k _ _ (.inl rfl) e⟩
 | tup xs=>obtain⟨z,its,r,ob,e,c⟩:=x;exact⟨z,its,r,ob,k _ _ (.inl rfl) e,c⟩
 | dK kvs=>obtain⟨z,y,vs,r,ob,es,ep,e,c⟩:=x;exact⟨z,y,vs,r,ob,es,ep,k _ _ (.inl rfl) e,c⟩
 | dT kvs=>
  obtain⟨z,y,xs,r,ob,es,ep,e,c⟩:=x
  exact⟨z,y,xs,Paired.mapP r fun p q z=>⟨z.1,ht _ _ z.2.1,z.2.2⟩,ob,es,ep,k _ _ (.inl rfl) e,c⟩
 | set S n=>obtain⟨ob,es,ep,t,e,c⟩:=x;exact⟨ob,es,ep,t,k _ _ (.inl rfl) e,c⟩
 | ins C dx fs=>
  obtain⟨d,z,ne,e,mA,⟨od,es,ep,e2,c⟩,r⟩:=x
  exact⟨ho _ d,z,ne,k _ _ (.inl rfl) e,mA,⟨od,es,ep,k _ _ (.inr d) e2,c⟩,r⟩
 | own y=>obtain⟨ob,e⟩:=x;exact⟨ob,k _ _ (.inl rfl) e⟩
 | xd fs=>obtain⟨mA,⟨od,es,ep,e,c⟩,r⟩:=x;exact⟨mA,⟨od,es,ep,k _ _ (.inl rfl) e,c⟩,r⟩
 | rng lo hi=>obtain⟨t,u,v,e⟩:=x;exact⟨t,u,v,k _ _ (.inl rfl) e⟩
 | frz ob u ih=>obtain⟨e,q⟩:=x;exact⟨k _ _ (.inl rfl) e,ih q⟩
 | tbl ps=>
  have e:h.get? a=some { cls:=.none,data:=.fields ps }:=x
  show h'.get? a=some { cls:=.none,data:=.fields ps }
  exact k a _ (.inl rfl) e
 | met f y=>
  have e:h.get? a=some (PySem.W.methodObj (.ref f) (.ref y)):=x
  show h'.get? a=some (PySem.W.methodObj (.ref f) (.ref y))
  exact k a _ (.inl rfl) e
 | ext φ=>obtain⟨p,⟨o,e⟩,st⟩:=x;exact⟨st _ _ p fun o q=>k _ _ (.inl rfl) q,⟨o,k _ _ (.inl rfl) e⟩,st⟩
theorem HOk.lt (x:HOk P w H h)(e:H a=some o):a<h.objs.size:=(x a o e).lt
theorem HOk.fresh (x:HOk P w H h)(e:h.objs.size≤a):H a=none:=by
 cases q:H a with
 | none=>rfl
 | some u=>exact absurd (Nat.lt_of_lt_of_le (x.lt q) e) (Nat.lt_irrefl _)
theorem HOk.kept (x:HOk P w H h)(k:∀b u,h.get? b=some u→h'.get? b=some u):HOk P w H h':=fun a o e=>
 (x a o e).stay (fun b u _ q=>k b u q) (fun _ q=>q) fun _ _ q=>q
theorem HOk.laid (x:HOk P w H h)(k:∀b u,h.get? b=some u→h'.get? b=some u)(hp:h.objs.size≤a)(new:ObjOk P w (upd H a o) h' a o):HOk P w (upd H a o) h':=fun b u e=>by
 have hn:=x.fresh hp
 by_cases hb:b=a
 ·subst hb;rw[Zaf]at e;cases e;exact new
 ·rw[Zac hb]at e
  exact(x b u e).stay (fun c v _ q=>k c v q) (fun c q=>by rw[Zac (Zah q hn)];exact q) fun c xs q=>by rw[Zac (Zah q hn)];exact q
end
def Rd (H:Hp)(a:Addr)(u:HO):Prop:=H a=some u∨∃o,H a=some (.frz o u)
theorem Rd.of {H:Hp}{a:Addr}{u:HO}(h:H a=some u):Rd H a u:=.inl h
theorem Rd.ok {P:Program}{w:World}{H:Hp}{h:Heap}{a:Addr}{u:HO}(r:Rd H a u)(x:HOk P w H h):ObjOk P w H h a u:=by
 rcases r with r | ⟨o,r⟩
 ·exact x a u r
 ·obtain⟨_,q⟩:=x a _ r
  exact q
def Mut:Option HO→Prop
 | some (.lst _)=>True
 | some (.dK _)=>True
 | some (.dT _)=>True
 | some (.set _ _)=>True
 | some (.ins _ _ _)=>True
 | some (.ext _)=>True
 | _=>False
section
variable {P:Program}{w:World}{H:Hp}{h h':Heap}{x e:Addr}{o':HO}
theorem HOk.write (ok:HOk P w H h)(mu:Mut (H x))(he:e=x∨H e=some (.own x))(k:∀b u,b≠e→h.get? b=some u→h'.get? b=some u)(heo:∃u,h'.get? e=some u)
  (new:ObjOk P w (upd H x o') h' x o'):HOk P w (upd H x o') h':=fun b u q=>by
 have nown:∀c y,H c=some (.own y)→c≠x:=fun c y r z=>by subst z;rw[r]at mu;exact mu
 have ntup:∀c xs,H c=some (.tup xs)→c≠x:=fun c xs r z=>by subst z;rw[r]at mu;exact mu
 by_cases hb:b=x
 ·subst hb;rw[Zaf]at q;cases q;exact new
 ·rw[Zac hb]at q
  by_cases hbe:b=e
  ·have q':H b=some (.own x):=by
    rcases he with z | z
    ·exact absurd (hbe.trans z) hb
    ·rw[hbe];exact z
   rw[q]at q';cases q'
   obtain⟨v,hv⟩:=heo
   exact⟨v,by rw[hbe];exact hv⟩
  ·refine(ok b u q).stay (fun c v hc r=>k c v ?_ r) (fun c r=>by rw[Zac (nown c b r)];exact r) fun c xs r=>by rw[Zac (ntup c xs r)];exact r
   rcases hc with rfl | hc
   ·exact hbe
   ·rintro rfl
    rcases he with z | z
    ·exact nown c b hc z
    ·rw[hc]at z;cases z;exact hb rfl
end
structure Un (fs ex:List Addr)(H H':Hp)(h h':Heap):Prop where
 keep:∀b o,h.get? b=some o→H b=none→b∉fs→b∉ex→h'.get? b=some o
 slot:∀b o,h.get? b=some o→H b=none→b∈fs→b∉ex→∃sl,h'.get? b=some { o with slots:=sl }
 free:∀b o,h.get? b=some o→H b=none→b∉ex→H' b=none
 there:∀b o,h.get? b=some o→b∉ex→∃o',h'.get? b=some o'
 tups:∀b xs,H b=some (.tup xs)→H' b=some (.tup xs)
 frzs:∀b o u,H b=some (.frz o u)→H' b=some (.frz o u)
 tbls:∀b ps,H b=some (.tbl ps)→∃more,H' b=some (.tbl (ps++more))
section
variable {fs fs' ex ex':List Addr}{H H1 H2:Hp}{h h1 h2 h':Heap}{a x e:Addr}{o:HO}
theorem Un.any (u:Un fs ex H H1 h h1){b:Addr}{ob:Obj}(q:h.get? b=some ob)(n:H b=none)(hx:b∉ex):∃sl,h1.get? b=some { ob with slots:=sl }:=by
 by_cases hb:b∈fs
 ·exact u.slot b ob q n hb hx
 ·exact⟨ob.slots,u.keep b ob q n hb hx⟩
theorem Un.trans (a:Un fs ex H H1 h h1)(b:Un fs ex H1 H2 h1 h2):Un fs ex H H2 h h2 where
 keep:=fun c ob q n hc hx=>b.keep c ob (a.keep c ob q n hc hx) (a.free c ob q n hx) hc hx
 slot:=fun c ob q n hc hx=>by
  obtain⟨sl,e1⟩:=a.slot c ob q n hc hx
  obtain⟨sl',e2⟩:=b.slot c _ e1 (a.free c ob q n hx) hc hx
  exact⟨sl',e2⟩
 free:=fun c ob q n hx=>by
  obtain⟨o',e1⟩:=a.there c ob q hx
  exact b.free c o' e1 (a.free c ob q n hx) hx
 there:=fun c ob q hx=>by
  obtain⟨o',e1⟩:=a.there c ob q hx
  exact b.there c o' e1 hx
 tups:=fun c xs q=>b.tups c xs (a.tups c xs q)
 frzs:=fun c ob xs q=>b.frzs c ob xs (a.frzs c ob xs q)
 tbls:=fun c ps q=>by
  obtain⟨m1,e1⟩:=a.tbls c ps q
  obtain⟨m2,e2⟩:=b.tbls c _ e1
  exact⟨m1++m2,by rw[e2,Array.append_assoc]⟩
theorem Un.kept (k:∀b u,h.get? b=some u→h'.get? b=some u):Un fs ex H H h h':=
 ⟨fun b ob q _ _ _=>k b ob q,fun b ob q _ _ _=>⟨ob.slots,k b ob q⟩,fun _ _ _ n _=>n,fun b ob q _=>⟨ob,k b ob q⟩,fun _ _ q=>q,fun _ _ _ q=>q,fun _ ps q=>⟨#[],by rw[q];simp⟩⟩
theorem Un.refl:Un fs ex H H h h:=Un.kept fun _ _ q=>q
theorem Un.laid (k:∀b u,h.get? b=some u→h'.get? b=some u)(hp:h.objs.size≤a)(hn:H a=none):Un fs ex H (upd H a o) h h' where
 keep:=fun b u q _ _ _=>k b u q
 slot:=fun b u q _ _ _=>⟨u.slots,k b u q⟩
 free:=fun b u q n _=>by rw[Zac (Nat.ne_of_lt (Nat.lt_of_lt_of_le (Heap.lt_size q) hp))];exact n
 there:=fun b u q _=>⟨u,k b u q⟩
 tups:=fun b xs q=>by rw[Zac (Zah q hn)];exact q
 frzs:=fun b u xs q=>by rw[Zac (Zah q hn)];exact q
 tbls:=fun b ps q=>⟨#[],by rw[Zac (Zah q hn),q];simp⟩
theorem Un.write (mu:Mut (H x))(he:e=x∨H e=some (.own x))(k:∀b u,b≠e→h.get? b=some u→h'.get? b=some u)(heo:∃u,h'.get? e=some u):Un fs ex H (upd H x o) h h':=by
 have hx:∀b,H b=none→b≠x:=fun b n z=>by subst z;rw[n]at mu;exact mu
 have hb:∀b,H b=none→b≠e:=fun b n z=>by
  subst z
  rcases he with r | r
  ·exact hx b n r
  ·rw[n]at r;cases r
 have hm:∀b u,H b=some u→¬Mut (some u)→b≠x:=fun b u q nm z=>by subst z;rw[q]at mu;exact nm mu
 refine⟨fun b u q n _ _=>k b u (hb b n) q,fun b u q n _ _=>⟨u.slots,k b u (hb b n) q⟩,fun b u q n _=>by rw[Zac (hx b n)];exact n,fun b u q _=>?_,
  fun b xs q=>by rw[Zac (hm b _ q fun z=>z)];exact q,fun b u xs q=>by rw[Zac (hm b _ q fun z=>z)];exact q,fun b ps q=>⟨#[],by rw[Zac (hm b _ q fun z=>z),q];simp⟩⟩
 by_cases hbe:b=e
 ·subst hbe;exact heo
 ·exact⟨u,k b u hbe q⟩
end
def trk (h:Heap)(H:Hp):List Addr:=(List.range h.objs.size).filter fun a=>(H a).isSome
def hidT (h:Heap)(H:Hp):Heap:=PySem.W.hideAll h (trk h H)
theorem Zd9 (h:Heap)(H:Hp):(hidT h H).objs.size=h.objs.size:=PySem.W.hideAll_size _ _
theorem Zfl {h:Heap}{H:Hp}{b:Addr}{o:Obj}(e:h.get? b=some o)(n:H b=none):(hidT h H).get? b=some o:=
 PySem.W.hideAll_get _ e fun hm=>by
  have q:(H b).isSome=true:=(List.mem_filter.mp hm).2
  rw[n]at q;simp at q
theorem ZgI {h:Heap}{H:Hp}{b:Addr}{o:Obj}(e:(hidT h H).get? b=some o):h.get? b=some o∧H b=none:=by
 have e':h.get? b=some o:=PySem.W.of_hideAll (trk h H) e
 refine⟨e',?_⟩
 cases q:H b with
 | none=>rfl
 | some x=>
  have hm:b∈trk h H:=List.mem_filter.mpr ⟨List.mem_range.mpr (Heap.lt_size e'),by simp[q]⟩
  have z:(hidT h H).get? b=none:=PySem.W.hideAll_none (trk h H) hm
  rw[z]at e;cases e
def ZjJ (g h:Heap)(L:Addr):List (Addr×Obj):=(List.range h.objs.size).filterMap fun a=>if a=L∨(g.get? a).isSome=true then none else (h.get? a).map fun o=>(a,o)
def rest (g h:Heap)(L d:Addr):List (Addr×Obj):=(ZjJ g h L).filter fun p=>decide (p.1≠d)
structure Mod (K:PySem.W.Frag)(mg:Str→Option Value)(base:Heap):Prop where
 kin:K.In base
 glob:base.Ns mainGlobals mg
 blt:∃mb,base.Ns builtinsNs mb∧∀x:Str,x≠"__name__"→mb x=bootBuiltins x
 nolimit:base.NoLimit
structure Cx where
 prog:Program
 w:World
 K:PySem.W.Frag
 mg:Str→Option Value
 base:Heap
 A:Around
 N:List Str
 s₀:Shared
 H₀:Hp
 env:Env
 outer:List Env
 stack:List Env
 ex:List Addr
 fn:Str→Bool
 calm:Bool
 pn:List (Addr×Obj)
 xe:Value→Shared→Prop
def frs (l:List Env):List Addr:=l.filterMap (·.frame)
abbrev Cx.fs (X:Cx):List Addr:=frs X.outer
def Vis (sc:Scope)(x:Str):Prop:=sc.names.lookup x=some .local∨sc.names.lookup x=some .cell∨sc.names.lookup x=some .free
def Loc (sc:Scope)(x:Str):Prop:=sc.names.lookup x=some .local∨sc.names.lookup x=some .cell
def Look (env:Env)(h:Heap)(m:Str→Option Value)(x:Str)(u:Value):Prop:=
 (env.kindOf x=some .local∧m x=some u)∨((env.kindOf x=some .cell∨env.kindOf x=some .free)∧∃c,env.cells.lookup x=some c∧h.IsCell c (some u))
structure Cx.Ok (X:Cx):Prop where
 mod:Mod X.K X.mg X.base
 kind:X.env.scope.kind=.function
 glob:X.env.globals=mainGlobals
 blt:X.env.builtins=builtinsNs
 above:X.s₀.heap.objs.size≤X.env.locals
 inj:∀x y c,X.env.cells.lookup x=some c→X.env.cells.lookup y=some c→x=y
 has:∀x,(X.env.kindOf x=some .cell∨X.env.kindOf x=some .free)→∃c,X.env.cells.lookup x=some c
 cab:∀x c,X.fn x=true→X.env.cells.lookup x=some c→X.s₀.heap.objs.size≤c
 hd:X.calm=true→X.A.handled=none
 frames:X.A.frames=some X.stack
 stk:X.stack=X.outer∨(X.stack=X.env::X.outer∧X.env.frame=some X.env.locals)
 exf:∀b∈X.ex,b≠X.env.locals∧∀x c,X.env.cells.lookup x=some c→c≠b
 bs:∀b o,X.base.get? b=some o→X.s₀.heap.get? b=some o∧X.H₀ b=none
 bsz:X.base.objs.size≤X.s₀.heap.objs.size
 noex:∀b o,X.base.get? b=some o→b∉X.ex
 exfs:∀b∈X.ex,b∉X.fs
 funs:X.s₀.heap.FunFrames X.base X.outer
 frf:∀b∈X.fs,X.H₀ b=none
structure Inv (X:Cx)(pins:List (Addr×Obj))(σ:List (Option V))(H:Hp)(s:Shared):Prop where
 ok:X.Ok
 os:s.os=X.s₀.os
 bare:AllBare s.gens
 base:Un X.fs X.ex X.H₀ H X.s₀.heap s.heap
 loc:∃m,s.heap.Ns X.env.locals m∧∀(i:Nat) (x:Str) (v:V),X.N[i]?=some x→σ[i]?=some (some v)→Vis X.env.scope x→∃u,RelV v u∧Look X.env s.heap m x u
 cell:∀x c,X.env.cells.lookup x=some c→∃v,s.heap.IsCell c v
 free:H X.env.locals=none
 freeC:∀x c,X.env.cells.lookup x=some c→H c=none
 pin:∀p∈X.pn++pins,s.heap.get? p.1=some p.2∧H p.1=none∧p.1≠X.env.locals∧p.1∉X.fs∧∀v,p.2.data≠.cell v
 hok:HOk X.prog X.w H s.heap
 len:σ.length=X.N.length
section
variable {X:Cx}{pins:List (Addr×Obj)}{σ:List (Option V)}{H H':Hp}{s:Shared}{h':Heap}
theorem Cx.Ok.nofr (ok:X.Ok){b:Addr}{o:Obj}(e:X.base.get? b=some o):b∉X.fs:=fun hb=>by
 have:=(ok.funs.mem hb).1
 rw[e]at this;cases this
theorem Inv.bs (I:Inv X pins σ H s):∀b o,X.base.get? b=some o→s.heap.get? b=some o∧H b=none:=fun b o e=>
 ⟨I.base.keep b o (I.ok.bs b o e).1 (I.ok.bs b o e).2 (I.ok.nofr e) (I.ok.noex b o e),I.base.free b o (I.ok.bs b o e).1 (I.ok.bs b o e).2 (I.ok.noex b o e)⟩
theorem Inv.bk (I:Inv X pins σ H s):∀b o,X.base.get? b=some o→s.heap.get? b=some o:=fun b o e=>(I.bs b o e).1
theorem Inv.mod (I:Inv X pins σ H s):Mod X.K X.mg X.base:=I.ok.mod
theorem Inv.kIn (I:Inv X pins σ H s):X.K.In s.heap:=I.ok.mod.kin.keeps I.bk
theorem Inv.lt (I:Inv X pins σ H s):X.env.locals<s.heap.objs.size:=let ⟨_,hn,_⟩:=I.loc;hn.lt
theorem Inv.sz (I:Inv X pins σ H s):X.s₀.heap.objs.size≤s.heap.objs.size:=Nat.le_trans I.ok.above (Nat.le_of_lt I.lt)
theorem Inv.nofs (I:Inv X pins σ H s){a:Addr}(h:s.heap.objs.size≤a):a∉X.fs:=fun hb=>by
 obtain⟨_,o,ho,_⟩:=I.ok.funs.mem hb
 exact absurd (Nat.lt_of_lt_of_le (Heap.lt_size ho) (Nat.le_trans I.sz h)) (Nat.lt_irrefl _)
theorem Inv.cne (I:Inv X pins σ H s):∀x c,X.env.cells.lookup x=some c→c≠X.env.locals:=fun x c e z=>by
 obtain⟨v,o,ho,hd⟩:=I.cell x c e
 obtain⟨m,⟨o',es,ep,ho',hd',_⟩,_⟩:=I.loc
 rw[z,ho']at ho;cases ho;rw[hd']at hd;cases hd
theorem Inv.funs (I:Inv X pins σ H s):s.heap.FunFrames X.base X.outer:=by
 have all:∀(l:List Env),(∀b∈frs l,b∈X.fs)→X.s₀.heap.FunFrames X.base l→s.heap.FunFrames X.base l:=by
  intro l
  induction l with
  | nil=>intro _ _;trivial
  | cons env r ih=>
   intro hs hl
   obtain⟨hk,⟨L,o,hf,hn,ho,hd⟩,hr⟩:=hl
   have hL:L∈X.fs:=hs L (by unfold frs;rw[List.filterMap_cons,hf];exact List.mem_cons_self)
   obtain⟨sl,e⟩:=I.base.slot L o ho (I.ok.frf L hL) hL fun z=>I.ok.exfs L z hL
   exact⟨hk,⟨L,_,hf,hn,e,hd⟩,ih (fun b hb=>hs b (by unfold frs;rw[List.filterMap_cons,hf];exact List.mem_cons_of_mem _ hb)) hr⟩
 exact all X.outer (fun _ hb=>hb) I.ok.funs
theorem Inv.stack (I:Inv X pins σ H s):s.heap.FunFrames X.base X.stack:=by
 rcases I.ok.stk with e | ⟨e,hf⟩
 ·rw[e];exact I.funs
 ·rw[e]
  obtain⟨m,hn,_⟩:=I.loc
  refine .cons (by rw[I.ok.kind];decide) hf hn ?_ I.funs
  exact Heap.get?_none_of_le (Nat.le_trans I.ok.bsz I.ok.above)
theorem Inv.stkSub (I:Inv X pins σ H s):∀b∈frs X.stack,b∈X.env.locals::X.fs:=fun b hb=>by
 rcases I.ok.stk with e | ⟨e,hf⟩
 ·rw[e]at hb;exact List.mem_cons_of_mem _ hb
 ·rw[e]at hb
  unfold frs at hb
  rw[List.filterMap_cons,hf]at hb
  exact hb
theorem Inv.stkFree (I:Inv X pins σ H s):∀b∈frs X.stack,H b=none:=fun b hb=>by
 rcases List.mem_cons.mp (I.stkSub b hb) with e | hb
 ·rw[e];exact I.free
 ·obtain⟨_,o,ho,_⟩:=I.ok.funs.mem hb
  exact I.base.free b o ho (I.ok.frf b hb) fun z=>I.ok.exfs b z hb
theorem Inv.step {g':Array GenState}{t':Nat}{d':Drawn}{ch:List Addr}(I:Inv X pins σ H s)
  (hch:∀b∈ch,(b∈X.ex∨X.s₀.heap.objs.size≤b)∧b≠X.env.locals∧(∀x c,X.env.cells.lookup x=some c→c≠b)∧∀p∈X.pn++pins,p.1≠b)
  (keep:∀b o,b≠X.env.locals→b∉X.fs→b∉ch→s.heap.get? b=some o→H b=none→h'.get? b=some o)
  (slot:∀b o,b≠X.env.locals→b∈X.fs→b∉ch→s.heap.get? b=some o→H b=none→∃sl,h'.get? b=some { o with slots:=sl }) (free:∀b o,b∉ch→s.heap.get? b=some o→H b=none→H' b=none)
  (there:∀b o,b∉ch→s.heap.get? b=some o→∃o',h'.get? b=some o')
  (tups:∀b xs,H b=some (.tup xs)→H' b=some (.tup xs)) (frzs:∀b o u,H b=some (.frz o u)→H' b=some (.frz o u)) (tbls:∀b ps,H b=some (.tbl ps)→∃more,H' b=some (.tbl (ps++more)))
  (ns:∀m,s.heap.Ns X.env.locals m→h'.Ns X.env.locals m) (hok:HOk X.prog X.w H' h') (hg:AllBare g'):
  Inv X pins σ H' { s with heap:=h',gens:=g',drawn:=d',toks:=t' }:=by
 have neL:∀b o,X.s₀.heap.get? b=some o→b≠X.env.locals:=fun b o e=>Nat.ne_of_lt (Nat.lt_of_lt_of_le (Heap.lt_size e) I.ok.above)
 have neC:∀b o,X.s₀.heap.get? b=some o→b∉X.ex→b∉ch:=fun b o e hx hb=>by
  rcases (hch b hb).1 with z | z
  ·exact hx z
  ·exact absurd (Nat.lt_of_lt_of_le (Heap.lt_size e) z) (Nat.lt_irrefl _)
 have cellK:∀x c,X.env.cells.lookup x=some c→∀v,s.heap.IsCell c v→h'.IsCell c v:=fun x c e v ⟨o,ho,hd⟩=>by
  have nch:c∉ch:=fun z=>(hch c z).2.2.1 x c e rfl
  by_cases hc:c∈X.fs
  ·obtain⟨sl,q⟩:=slot c o (I.cne x c e) hc nch ho (I.freeC x c e)
   exact⟨_,q,hd⟩
  ·exact⟨o,keep c o (I.cne x c e) hc nch ho (I.freeC x c e),hd⟩
 refine⟨I.ok,I.os,hg,⟨fun b o e n hb hx=>?_,fun b o e n hb hx=>?_,fun b o e n hx=>?_,fun b o e hx=>?_,fun b xs e=>tups b xs (I.base.tups b xs e),fun b o xs e=>frzs b o xs (I.base.frzs b o xs e),fun b ps e=>?_⟩,?_,fun x c e=>?_,?_,fun x c e=>?_,fun p hp=>?_,hok,I.len⟩
 ·exact keep b o (neL b o e) hb (neC b o e hx) (I.base.keep b o e n hb hx) (I.base.free b o e n hx)
 ·obtain⟨sl,e1⟩:=I.base.slot b o e n hb hx
  obtain⟨sl',e2⟩:=slot b _ (neL b o e) hb (neC b o e hx) e1 (I.base.free b o e n hx)
  exact⟨sl',e2⟩
 ·obtain⟨o',e1⟩:=I.base.there b o e hx
  exact free b o' (neC b o e hx) e1 (I.base.free b o e n hx)
 ·obtain⟨o',e1⟩:=I.base.there b o e hx
  exact there b o' (neC b o e hx) e1
 ·obtain⟨m1,e1⟩:=I.base.tbls b ps e
  obtain⟨m2,e2⟩:=tbls b _ e1
  exact⟨m1++m2,by rw[e2,Array.append_assoc]⟩
 ·obtain⟨m,hn,hl⟩:=I.loc
  refine⟨m,ns m hn,fun i x v e1 e2 e3=>?_⟩
  obtain⟨u,r,l⟩:=hl i x v e1 e2 e3
  refine⟨u,r,?_⟩
  rcases l with l | ⟨k,c,e,z⟩
  ·exact .inl l
  ·exact .inr ⟨k,c,e,cellK x c e _ z⟩
 ·obtain⟨v,z⟩:=I.cell x c e
  exact⟨v,cellK x c e v z⟩
 ·obtain⟨m,⟨o,_,_,ho,_⟩,_⟩:=I.loc
  exact free _ o (fun z=>(hch _ z).2.1 rfl) ho I.free
 ·obtain⟨v,o,ho,hd⟩:=I.cell x c e
  exact free c o (fun z=>(hch c z).2.2.1 x c e rfl) ho (I.freeC x c e)
 ·obtain⟨e,n,ne,nf,d⟩:=I.pin p hp
  have nch:p.1∉ch:=fun z=>(hch p.1 z).2.2.2 p hp rfl
  exact⟨keep p.1 p.2 ne nf nch e n,free p.1 p.2 nch e n,ne,nf,d⟩
theorem Inv.un {t':Nat}(I:Inv X pins σ H s)(u:Un X.fs [] H H' s.heap h')(hok:HOk X.prog X.w H' h'):Inv X pins σ H' { s with heap:=h',toks:=t' }:=by
 obtain⟨m,⟨o,es,ep,ho,r⟩,_⟩:=id I.loc
 obtain⟨sl,hL⟩:=u.any ho I.free (by simp)
 exact I.step (g':=s.gens) (d':=s.drawn) (ch:=[]) (fun _ z=>nomatch z) (fun b o _ hb _ e n=>u.keep b o e n hb (by simp)) (fun b o _ hb _ e n=>u.slot b o e n hb (by simp)) (fun b o _ e n=>u.free b o e n (by simp)) (fun b o _ e=>u.there b o e (by simp)) u.tups u.frzs u.tbls (fun m' hm=>by
  obtain⟨o',es',ep',ho',r'⟩:=hm
  rw[ho]at ho';cases ho'
  exact⟨_,es',ep',hL,r'⟩) hok I.bare
theorem Inv.call {g':Array GenState}{t':Nat}{d':Drawn}{ch:List Addr}(I:Inv X pins σ H s)(u:Un (frs X.stack) ch H H' s.heap h')(hok:HOk X.prog X.w H' h')(hg:AllBare g')
  (hch:∀b∈ch,(b∈X.ex∨X.s₀.heap.objs.size≤b)∧b≠X.env.locals∧(∀x c,X.env.cells.lookup x=some c→c≠b)∧∀p∈X.pn++pins,p.1≠b):
  Inv X pins σ H' { s with heap:=h',gens:=g',drawn:=d',toks:=t' }:=by
 obtain⟨m,⟨o,es,ep,ho,r⟩,_⟩:=id I.loc
 obtain⟨sl,hL⟩:=u.any ho I.free fun z=>(hch _ z).2.1 rfl
 exact I.step (ch:=ch) hch (fun b o hL hb hc e n=>u.keep b o e n (fun z=>(List.mem_cons.mp (I.stkSub b z)).elim hL hb) hc) (fun b o _ _ hc e n=>u.any e n hc) (fun b o hc e n=>u.free b o e n hc) (fun b o hc e=>u.there b o e hc) u.tups u.frzs u.tbls (fun m' hm=>by
  obtain⟨o',es',ep',ho',r'⟩:=hm
  rw[ho]at ho';cases ho'
  exact⟨_,es',ep',hL,r'⟩) hok hg
theorem Inv.turned {t':Nat}{it:Addr}(I:Inv X pins σ H s)(k:∀b o,b≠it→s.heap.get? b=some o→h'.get? b=some o)(hn:H it=none)(hL:it≠X.env.locals)
  (h1:it∈X.ex∨X.s₀.heap.objs.size≤it) (h2:∀x c,X.env.cells.lookup x=some c→c≠it) (h3:∀p∈X.pn++pins,p.1≠it):Inv X pins σ H { s with heap:=h',toks:=t' }:=by
 have nit:∀b u,H b=some u→b≠it:=fun b u e z=>by rw[z,hn]at e;cases e
 refine I.step (g':=s.gens) (d':=s.drawn) (ch:=[it]) (fun b hb=>?_) (fun b o _ _ hc e _=>k b o (fun z=>hc (by simp[z])) e) (fun b o _ _ hc e _=>⟨o.slots,k b o (fun z=>hc (by simp[z])) e⟩) (fun _ _ _ _ n=>n)
  (fun b o hc e=>⟨o,k b o (fun z=>hc (by simp[z])) e⟩) (fun _ _ e=>e) (fun _ _ _ e=>e) (fun b ps e=>⟨#[],by rw[e];simp⟩) (fun m hm=>?_) (fun b u e=>?_) I.bare
 ·have e:b=it:=by simpa using hb
  subst e
  exact⟨h1,hL,h2,h3⟩
 ·obtain⟨o,es,ep,ho,r⟩:=hm
  exact⟨o,es,ep,k _ o (Ne.symm hL) ho,r⟩
 ·refine(I.hok b u e).stay (fun c v hc q=>k c v ?_ q) (fun _ q=>q) fun _ _ q=>q
  rcases hc with z | z
  ·rw[z];exact nit b u e
  ·exact nit c _ z
theorem Inv.tok (I:Inv X pins σ H s)(t:Nat):Inv X pins σ H { s with toks:=t }:=I.un (h':=s.heap) (t':=t) Un.refl I.hok
theorem Inv.kept {t':Nat}(I:Inv X pins σ H s)(k:∀b u,s.heap.get? b=some u→h'.get? b=some u):Inv X pins σ H { s with heap:=h',toks:=t' }:=I.un (Un.kept k) (I.hok.kept k)
theorem Inv.laid {a:Addr}{o:HO}{t':Nat}(I:Inv X pins σ H s)(k:∀b u,s.heap.get? b=some u→h'.get? b=some u)(hp:s.heap.objs.size≤a)(new:ObjOk X.prog X.w (upd H a o) h' a o):
  Inv X pins σ (upd H a o) { s with heap:=h',toks:=t' }:=I.un (Un.laid k hp (I.hok.fresh hp)) (I.hok.laid k hp new)
theorem Inv.write {x e:Addr}{o:HO}{t':Nat}(I:Inv X pins σ H s)(mu:Mut (H x))(he:e=x∨H e=some (.own x))(k:∀b u,b≠e→s.heap.get? b=some u→h'.get? b=some u)(heo:∃u,h'.get? e=some u)
  (new:ObjOk X.prog X.w (upd H x o) h' x o):Inv X pins σ (upd H x o) { s with heap:=h',toks:=t' }:=I.un (Un.write mu he k heo) (I.hok.write mu he k heo new)
theorem Inv.pins_of {pins':List (Addr×Obj)}(I:Inv X pins σ H s)(h:∀p∈pins',s.heap.get? p.1=some p.2∧H p.1=none∧p.1≠X.env.locals∧p.1∉X.fs∧∀v,p.2.data≠.cell v):Inv X pins' σ H s:=
 ⟨I.ok,I.os,I.bare,I.base,I.loc,I.cell,I.free,I.freeC,fun p hp=>(List.mem_append.mp hp).elim (fun z=>I.pin p (List.mem_append_left _ z)) (h p),I.hok,I.len⟩
theorem Zfd {N:List Str}(hN:N.Nodup){i j:Nat}{x:Str}(a:N[i]?=some x)(b:N[j]?=some x):i=j:=by
 obtain⟨h1,e1⟩:=List.getElem?_eq_some_iff.mp a
 obtain⟨h2,e2⟩:=List.getElem?_eq_some_iff.mp b
 exact(List.getElem_inj hN).mp (e1.trans e2.symm)
theorem ZdK {M:Model}{A:Around}{E:Value→Shared→Prop}{i:Nat}{x:Str}{v:V}{u:Value}{Q:Unit→Shared→Prop}(I:Inv X pins σ H s)(hN:X.N.Nodup)(hi:X.N[i]?=some x)(hx:Loc X.env.scope x)(r:RelV v u)
  (h:∀s',Inv X pins (σ.set i (some v)) H s'→(∃a,Heap.SameBut a s.heap s'.heap∧(a=X.env.locals∨X.env.cells.lookup x=some a))→Q () s') (hf:X.fn x=true∨X.env.scope.names.lookup x=some .local:=by first | exact .inl rfl | exact .inr rfl | assumption):wpAny M A (storeName X.env x u) Q E s:=by
 obtain⟨m,hn,hl⟩:=id I.loc
 have hcls:(X.env.scope.kind == .class || (X.env.scope.kind == .module&&X.env.locals != X.env.globals))=false:=by rw[I.ok.kind];rfl
 have hiσ:i<σ.length:=by rw[I.len];exact(List.getElem?_eq_some_iff.mp hi).1
 have cne:=I.cne
 have tracked:∀ {a:Addr} {h':Heap},(∃o,s.heap.get? a=some o∧H a=none)→Heap.SameBut a s.heap h'→HOk X.prog X.w H h':=fun {a h'} ha hs b ob e=>by
  obtain⟨_,_,hfree⟩:=ha
  refine(I.hok b ob e).stay (fun c w' hc q=>(hs.2 c ?_).trans q) (fun _ q=>q) fun _ _ q=>q
  rintro rfl
  rcases hc with rfl | hc
  ·rw[hfree]at e;cases e
  ·rw[hfree]at hc;cases hc
 rcases hx with hk | hk
 ·refine wpAny_storeName_local hk hn (fun h' hn' hs=>?_) hcls
  obtain⟨oL,_,_,hoL,_⟩:=id hn
  refine h _ ⟨I.ok,I.os,I.bare,⟨fun b o e n hb hx=>?_,fun b o e n hb hx=>?_,I.base.free,fun b o e hx=>?_,I.base.tups,I.base.frzs,I.base.tbls⟩,⟨_,hn',fun j y v' e1 e2 e3=>?_⟩,fun y c e=>?_,I.free,I.freeC,fun p hp=>?_,tracked ⟨oL,hoL,I.free⟩ hs,by simpa using I.len⟩ ⟨_,hs,.inl rfl⟩
  ·exact(hs.2 b (Nat.ne_of_lt (Nat.lt_of_lt_of_le (Heap.lt_size e) I.ok.above))).trans (I.base.keep b o e n hb hx)
  ·obtain⟨sl,e1⟩:=I.base.slot b o e n hb hx
   exact⟨sl,(hs.2 b (Nat.ne_of_lt (Nat.lt_of_lt_of_le (Heap.lt_size e) I.ok.above))).trans e1⟩
  ·obtain⟨o',e1⟩:=I.base.there b o e hx
   exact⟨o',(hs.2 b (Nat.ne_of_lt (Nat.lt_of_lt_of_le (Heap.lt_size e) I.ok.above))).trans e1⟩
  ·by_cases hj:j=i
   ·subst hj
    rw[hi]at e1;cases e1
    rw[List.getElem?_set_self hiσ]at e2
    cases e2
    exact⟨u,r,.inl ⟨hk,by simp⟩⟩
   ·rw[List.getElem?_set_ne (Ne.symm hj)]at e2
    obtain⟨u',r',q⟩:=hl j y v' e1 e2 e3
    refine⟨u',r',?_⟩
    rcases q with⟨k,e⟩|⟨k,c,e,z⟩
    ·refine .inl ⟨k,?_⟩
     have:y≠x:=fun e=>hj (Zfd hN e1 (e▸hi))
     simp[this,e]
    ·exact .inr ⟨k,c,e,z.sameBut hs (cne y c e)⟩
  ·obtain⟨w',z⟩:=I.cell y c e
   exact⟨w',z.sameBut hs (cne y c e)⟩
  ·obtain⟨e,n,ne,nf,d⟩:=I.pin p hp
   exact⟨(hs.2 p.1 ne).trans e,n,ne,nf,d⟩
 ·have hfn:X.fn x=true:=by
   rcases hf with z | z
   ·exact z
   ·rw[z]at hk;cases hk
  obtain⟨c,hc⟩:=I.ok.has x (.inl hk)
  obtain⟨w',z⟩:=I.cell x c hc
  refine wpAny_storeName_cell I.ok.kind hk hc z (fun h' hc' hs=>?_)
  obtain⟨oc,hoc,hocd⟩:=id z
  refine h { s with heap:=h' } ⟨I.ok,I.os,I.bare,⟨fun b o e n hb hx=>?_,fun b o e n hb hx=>?_,I.base.free,fun b o e hx=>?_,I.base.tups,I.base.frzs,I.base.tbls⟩,⟨m,hn.sameBut hs (Ne.symm (cne x c hc)),fun j y v' e1 e2 e3=>?_⟩,fun y c' e=>?_,I.free,I.freeC,fun p hp=>?_,tracked ⟨oc,hoc,I.freeC x c hc⟩ hs,by simpa using I.len⟩ ⟨c,hs,.inr hc⟩
  ·exact(hs.2 b (Nat.ne_of_lt (Nat.lt_of_lt_of_le (Heap.lt_size e) (I.ok.cab x c hfn hc)))).trans (I.base.keep b o e n hb hx)
  ·obtain⟨sl,e1⟩:=I.base.slot b o e n hb hx
   exact⟨sl,(hs.2 b (Nat.ne_of_lt (Nat.lt_of_lt_of_le (Heap.lt_size e) (I.ok.cab x c hfn hc)))).trans e1⟩
  ·obtain⟨o',e1⟩:=I.base.there b o e hx
   exact⟨o',(hs.2 b (Nat.ne_of_lt (Nat.lt_of_lt_of_le (Heap.lt_size e) (I.ok.cab x c hfn hc)))).trans e1⟩
  ·by_cases hj:j=i
   ·subst hj
    rw[hi]at e1;cases e1
    rw[List.getElem?_set_self hiσ]at e2
    cases e2
    exact⟨u,r,.inr ⟨.inl hk,c,hc,hc'⟩⟩
   ·rw[List.getElem?_set_ne (Ne.symm hj)]at e2
    obtain⟨u',r',q⟩:=hl j y v' e1 e2 e3
    refine⟨u',r',?_⟩
    rcases q with q | ⟨k,c',e,z'⟩
    ·exact .inl q
    ·refine .inr ⟨k,c',e,z'.sameBut hs ?_⟩
     rintro rfl
     exact hj (Zfd hN e1 (I.ok.inj _ _ _ e hc▸hi))
  ·by_cases hcc:c'=c
   ·subst hcc;exact⟨_,hc'⟩
   ·obtain⟨w2,z2⟩:=I.cell y c' e
    exact⟨w2,z2.sameBut hs hcc⟩
  ·obtain⟨e,n,ne,nf,d⟩:=I.pin p hp
   refine⟨(hs.2 p.1 ?_).trans e,n,ne,nf,d⟩
   intro q
   rw[q,hoc]at e
   have q':oc=p.2:=Option.some.inj e
   exact d w' (by rw[←q'];exact hocd)
theorem Ze2 {M:Model}{A:Around}{E:Value→Shared→Prop}{i:Nat}{x:Str}{v:V}{u:Value}{Q:Unit→Shared→Prop}(I:Inv X pins σ H s)(hN:X.N.Nodup)(hi:X.N[i]?=some x)(hx:Loc X.env.scope x)(r:RelV v u)
  (h:∀s',Inv X pins (σ.set i (some v)) H s'→Q () s') (hf:X.fn x=true∨X.env.scope.names.lookup x=some .local:=by first | exact .inl rfl | exact .inr rfl | assumption):wpAny M A (storeName X.env x u) Q E s:=
 ZdK I hN hi hx r (fun s' I' _=>h s' I') hf
theorem Inv.call' {s':Shared}{ch:List Addr}(I:Inv X pins σ H s)(ho:s'.os=s.os)(u:Un (frs X.stack) ch H H' s.heap s'.heap)(hok:HOk X.prog X.w H' s'.heap)(hg:AllBare s'.gens)
  (hch:∀b∈ch,(b∈X.ex∨X.s₀.heap.objs.size≤b)∧b≠X.env.locals∧(∀x c,X.env.cells.lookup x=some c→c≠b)∧∀p∈X.pn++pins,p.1≠b):Inv X pins σ H' s':=by
 obtain⟨h',g',d',t',o'⟩:=s'
 have e:o'=s.os:=ho
 subst e
 exact I.call (g':=g') (t':=t') (d':=d') u hok hg hch
end
abbrev XK:=Value→Option Addr→Hp→Prop
abbrev St:=List (Option V)
abbrev VK:=V→Hp→Prop
abbrev TE:=St→Hp→VK→Prop
abbrev TT:=St→Hp→(Bool→Hp→Prop)→Prop
abbrev TA:=St→Hp→(List V→Hp→Prop)→Prop
structure Ends where
 nx:St→Hp→Prop
 rt:VK
 bk:St→Hp→Prop:=fun _ _=>False
 ct:St→Hp→Prop:=fun _ _=>False
abbrev TS:=Ends→St→Hp→Prop
def EP (X:Cx)(pins:List (Addr×Obj))(σ:St)(Q:VK)(u:Value)(s':Shared):Prop:=∃v H',Inv X pins σ H' s'∧RelV v u∧Q v H'
def TP (X:Cx)(pins:List (Addr×Obj))(σ:St)(Q:Bool→Hp→Prop)(b:Bool)(s':Shared):Prop:=∃H',Inv X pins σ H' s'∧Q b H'
def AP (X:Cx)(pins:List (Addr×Obj))(σ:St)(Q:List V→Hp→Prop)(us:List Value)(s':Shared):Prop:=∃vs H',Inv X pins σ H' s'∧Vals vs us∧Q vs H'
def SP (X:Cx)(pins:List (Addr×Obj))(D:Ends)(f:Flow)(s':Shared):Prop:=
 match f with
 | .next=>∃σ' H',Inv X pins σ' H' s'∧D.nx σ' H'
 | .brk=>∃σ' H',Inv X pins σ' H' s'∧D.bk σ' H'
 | .cont=>∃σ' H',Inv X pins σ' H' s'∧D.ct σ' H'
 | .ret u=>∃v σ' H',Inv X pins σ' H' s'∧RelV v u∧D.rt v H'
def PE (X:Cx)(e:Expr)(t:TE):Prop:=
 ∀(pins:List (Addr×Obj)) (s:Shared) (σ:St) (H:Hp) (Q:VK),Inv X pins σ H s→t σ H Q→wpAny (model X.prog X.w) X.A (eval e X.env) (EP X pins σ Q) X.xe s
def PT (X:Cx)(e:Expr)(t:TT):Prop:=
 ∀(pins:List (Addr×Obj)) (s:Shared) (σ:St) (H:Hp) (Q:Bool→Hp→Prop),Inv X pins σ H s→t σ H Q→wpAny (model X.prog X.w) X.A (isTrue e X.env (eval e X.env)) (TP X pins σ Q) X.xe s
def PW (X:Cx)(e:Expr)(t:TT):Prop:=
 ∀(whole:Sem Value) (pins:List (Addr×Obj)) (s:Shared) (σ:St) (H:Hp) (Q:Bool→Hp→Prop),Inv X pins σ H s→t σ H Q→wpAny (model X.prog X.w) X.A (isTrue e X.env whole) (TP X pins σ Q) X.xe s
theorem PW.pt {X:Cx}{e:Expr}{t:TT}(h:PW X e t):PT X e t:=h _
def PA (X:Cx)(es:List Expr)(t:TA):Prop:=
 ∀(pos:Pos) (pins:List (Addr×Obj)) (s:Shared) (σ:St) (H:Hp) (Q:List V→Hp→Prop),Inv X pins σ H s→t σ H Q→wpAny (model X.prog X.w) X.A (spliced (backTo pos (starEach es X.env))) (AP X pins σ Q) X.xe s
def PS (X:Cx)(st:Stmt)(t:TS):Prop:=
 ∀(pins:List (Addr×Obj)) (s:Shared) (σ:St) (H:Hp) (D:Ends),Inv X pins σ H s→t D σ H→wpAny (model X.prog X.w) X.A (exec st X.env) (SP X pins D) X.xe s
def PSs (X:Cx)(st:List Stmt)(t:TS):Prop:=
 ∀(pins:List (Addr×Obj)) (s:Shared) (σ:St) (H:Hp) (D:Ends),Inv X pins σ H s→t D σ H→wpAny (model X.prog X.w) X.A (execs st X.env) (SP X pins D) X.xe s
theorem thn {α:Type}{t:Sem α}{Q Q':α→Shared→Prop}{M:Model}{A:Around}{E:Value→Shared→Prop}{s:Shared}(h:wpAny M A t Q E s)(hQ:∀a s,Q a s→Q' a s):wpAny M A t Q' E s:=wpAny_mono h hQ fun _ _ x=>x
section
variable {X:Cx}
theorem bin {a b:Expr}{ta tb:TE}(ha:PE X a ta)(hb:PE X b tb){pins:List (Addr×Obj)}{s:Shared}{σ:St}{H:Hp}{R:V→V→Hp→Prop}(I:Inv X pins σ H s)(h:ta σ H fun x H1=>tb σ H1 fun y H2=>R x y H2)
  {α:Type} {Q:α→Shared→Prop} {f:Value→Value→Sem α}
  (hf:∀v u s2 x y H2,Inv X pins σ H2 s2→RelV x v→RelV y u→R x y H2→wpAny (model X.prog X.w) X.A (f v u) Q X.xe s2):
  wpAny (model X.prog X.w) X.A (eval a X.env) (fun v s₁=>wpAny (model X.prog X.w) X.A (eval b X.env) (fun u s₂=>wpAny (model X.prog X.w) X.A (f v u) Q X.xe s₂) X.xe s₁) X.xe s:=by
 refine thn (ha pins s σ H _ I h) fun v s1 ⟨x,H1,I1,r1,q1⟩=>?_
 refine thn (hb pins s1 σ H1 _ I1 q1) fun u s2 ⟨y,H2,I2,r2,q2⟩=>?_
 exact hf v u s2 x y H2 I2 r1 r2 q2
def tVar (i:Nat):TE:=fun σ H Q=>∃v,σ[i]?=some (some v)∧Q v H
def tC (v:V):TE:=fun _ H Q=>Q v H
theorem Zki {i:Nat} {x:Str} {pos:Pos} (hN:X.N[i]?=some x) (hv:Vis X.env.scope x) (hd:(x == ("__debug__":Str))=false:=by decide) (hcd:(x == ("__classdict__":Str))=false:=by decide):PE X (.Name x pos) (tVar i):=by
 intro pins s σ H Q I h
 obtain⟨v,e,h⟩:=h
 obtain⟨m,hn,hl⟩:=I.loc
 obtain⟨u,r,l⟩:=hl i x v hN e hv
 have fin:EP X pins σ Q u s:=⟨v,H,I,r,h⟩
 rcases l with⟨hk,hm⟩|⟨hk,c,hc,hcell⟩
 ·exact wpAny_Name (wpAny_loadName_local I.ok.kind hk hn hm fin) hd
 ·rcases hk with hk | hk
  ·exact wpAny_Name (wpAny_loadName_cell I.ok.kind hk hc hcell fin) hd
  ·exact wpAny_Name (wpAny_loadName_free I.ok.kind hk hc hcell fin hcd) hd
theorem Zaj {i j pos}:PE X (.Constant (.int i) j pos) (tC (.int i)):=fun _ _ _ H _ I h=>wpAny_Constant_int ⟨.int i,H,I.tok _,⟨_,rfl⟩,h⟩
theorem Zdo {b j pos}:PE X (.Constant (.bool b) j pos) (tC (.bl b)):=fun _ _ _ H _ I h=>Constant_bool ⟨.bl b,H,I,rfl,h⟩
theorem Ziu {j pos}:PE X (.Constant .none j pos) (tC .non):=fun _ _ _ H _ I h=>Constant_none ⟨.non,H,I,rfl,h⟩
theorem Zkk {x j pos}:PE X (.Constant (.str x) j pos) (tC (.str x)):=fun _ _ _ H _ I h=>Calls.Constant_str ⟨.str x,H,I.tok _,⟨_,rfl⟩,h⟩
def Gl (X:Cx)(x:Str):Prop:=X.env.kindOf x=some .globalImplicit
theorem ZeF {E:Value→Shared→Prop}{pins:List (Addr×Obj)}{s:Shared}{σ:St}{H:Hp}{x:Str}{u:Value}{pos:Pos}{Q:Value→Shared→Prop}(I:Inv X pins σ H s)(hg:Gl X x)(hm:X.mg x=some u)(h:Q u s)
  (hd:(x == ("__debug__":Str))=false:=by decide):wpAny (model X.prog X.w) X.A (eval (.Name x pos) X.env) Q E s:=
 Calls.Name_function_global I.ok.kind hg (Calls.loadGlobal_global (by rw[I.ok.glob];exact I.mod.glob.keeps I.bk) hm h) hd
theorem Zcy {E:Value→Shared→Prop}{pins:List (Addr×Obj)}{s:Shared}{σ:St}{H:Hp}{x:Str}{u:Value}{pos:Pos}{Q:Value→Shared→Prop}(I:Inv X pins σ H s)(hg:Gl X x)(hm:X.mg x=none)(hv:bootBuiltins x=some u)(h:Q u s)
  (hn:x≠"__name__":=by decide) (hd:(x == ("__debug__":Str))=false:=by decide):wpAny (model X.prog X.w) X.A (eval (.Name x pos) X.env) Q E s:=by
 obtain⟨mb,h1,h2⟩:=I.mod.blt
 exact Calls.Name_function_global I.ok.kind hg (Calls.loadGlobal_builtin (by rw[I.ok.glob];exact I.mod.glob.keeps I.bk) hm (by rw[I.ok.blt];exact h1.keeps I.bk) ((h2 x hn).trans hv) h) hd
theorem ZgA {x:Str} {v:V} {u:Value} {pos:Pos} (hg:Gl X x) (hm:X.mg x=some u) (r:RelV v u) (hd:(x == ("__debug__":Str))=false:=by decide):PE X (.Name x pos) (tC v):=
 fun _ _ _ H _ I h=>ZeF I hg hm ⟨v,H,I,r,h⟩ hd
theorem Zcs {x:Str} {v:V} {u:Value} {pos:Pos} (hg:Gl X x) (hm:X.mg x=none) (hv:bootBuiltins x=some u) (r:RelV v u) (hn:x≠"__name__":=by decide) (hd:(x == ("__debug__":Str))=false:=by decide):PE X (.Name x pos) (tC v):=
 fun _ _ _ H _ I h=>Zcy I hg hm hv ⟨v,H,I,r,h⟩ hn hd
variable {a b:Expr}{ta tb:TE}{pos:Pos}
def PC (X:Cx)(op:CmpOp)(a b:Expr)(t:TE):Prop:=
 ∀(pins:List (Addr×Obj)) (s:Shared) (σ:St) (H:Hp) (Q:VK),Inv X pins σ H s→t σ H Q →
  wpAny (model X.prog X.w) X.A (eval a X.env) (fun v s₁=>wpAny (model X.prog X.w) X.A (eval b X.env) (fun u s₂=>wpAny (model X.prog X.w) X.A (compareOp op v u) (EP X pins σ Q) X.xe s₂) X.xe s₁) X.xe s
theorem ZhT (b:Expr){op:CmpOp}(h:op≠.In)(h2:op≠.NotIn):behindInMarks op b=false:=by
 have e1:(op == CmpOp.In)=false:=by cases op<;>first | rfl | exact absurd rfl h
 have e2:(op == CmpOp.NotIn)=false:=by cases op<;>first | rfl | exact absurd rfl h2
 cases b<;>simp[behindInMarks,e1,e2]
def tB (t:TE):TT:=fun σ H Q=>t σ H fun x H1=>∃c,x=.bl c∧Q c H1
theorem Zkg {op:CmpOp}{t:TE}(h:PC X op a b t)(h1:behindInMarks op b=false:=by first | exact ZhT _ (by decide) (by decide) | rfl):PT X (.Compare a [op] [b] pos) (tB t):=by
 intro pins s σ H Q I hw
 refine wpAny_isTrue_Compare1 (thn (h pins s σ H _ I hw) fun v s1 h1=>thn h1 fun u s2 h2=>thn h2 fun c s3 ⟨x,H1,I1,r1,q1⟩=>?_) h1
 obtain⟨d,rfl,q⟩:=q1
 cases r1
 exact wpAny_truthy_bool ⟨H1,I1,q⟩
theorem Zbt {e:Expr}{t:TE}(h:PE X e t)(he:∀whole,isTrue e X.env whole=(do let v ←whole;standAt e.pos;holding [v] (truthy v)):=by intro _;rfl):PT X e (tB t):=by
 intro pins s σ H Q I hw
 refine isTrue_plain (thn (h pins s σ H _ I hw) fun v s1 ⟨x,H1,I1,r1,q1⟩=>?_) (he _)
 obtain⟨d,rfl,q⟩:=q1
 cases r1
 exact wpAny_truthy_bool ⟨H1,I1,q⟩
variable {tA tB':TT}{rest:List Expr}
def tAnd (t u:TT):TT:=fun σ H Q=>t σ H fun c H1=>if c=true then u σ H1 Q else Q false H1
def tOr (t u:TT):TT:=fun σ H Q=>t σ H fun c H1=>if c=true then Q true H1 else u σ H1 Q
def tNot (t:TT):TT:=fun σ H Q=>t σ H fun c H1=>Q (!c) H1
theorem Zdl (ha:PT X a tA):PW X (.BoolOp .And [a] pos) tA:=by
 intro wh pins s σ H Q I h
 refine isTrue_and (thn (ha pins s σ H Q I h) fun c s1 e=>?_)
 cases c with
 | true=>exact isTrue_and_nil e
 | false=>exact e
theorem ZdS (ha:PT X a tA):PW X (.BoolOp .Or [a] pos) tA:=by
 intro wh pins s σ H Q I h
 refine isTrue_or (thn (ha pins s σ H Q I h) fun c s1 e=>?_)
 cases c with
 | false=>exact isTrue_or_nil e
 | true=>exact e
theorem Ze6 (ha:PT X a tA)(hb:PW X (.BoolOp .And (b::rest) pos) tB'):PW X (.BoolOp .And (a::b::rest) pos) (tAnd tA tB'):=by
 intro wh pins s σ H Q I h
 refine isTrue_and (thn (ha pins s σ H _ I h) fun c s1 ⟨H1,I1,q1⟩=>?_)
 cases c with
 | true=>exact hb wh pins s1 σ H1 Q I1 q1
 | false=>exact⟨H1,I1,q1⟩
theorem ZeA (ha:PT X a tA)(hb:PW X (.BoolOp .Or (b::rest) pos) tB'):PW X (.BoolOp .Or (a::b::rest) pos) (tOr tA tB'):=by
 intro wh pins s σ H Q I h
 refine isTrue_or (thn (ha pins s σ H _ I h) fun c s1 ⟨H1,I1,q1⟩=>?_)
 cases c with
 | true=>exact⟨H1,I1,q1⟩
 | false=>exact hb wh pins s1 σ H1 Q I1 q1
theorem Zb8 (ha:PT X a tA):PT X (.UnaryOp .Not a pos) (tNot tA):=by
 intro pins s σ H Q I h
 exact isTrue_not (ha pins s σ H (fun c H1=>Q (!c) H1) I h)
def Zj7 (ta tb:TE):TE:=fun σ H Q=>ta σ H fun x H1=>∃c,x=.bl c∧if c=true then tb σ H1 Q else Q (.bl false) H1
def tOrV (ta tb:TE):TE:=fun σ H Q=>ta σ H fun x H1=>∃c,x=.bl c∧if c=true then Q (.bl true) H1 else tb σ H1 Q
def Zlo (ta:TE):TE:=fun σ H Q=>ta σ H fun x H1=>∃c,x=.bl c∧Q (.bl (!c)) H1
theorem Ze8 {op}{t:TE}(h:PE X a t):PE X (.BoolOp op [a] pos) t:=fun pins s σ H Q I hw=>BoolOp_one (h pins s σ H Q I hw)
theorem ZdY (ha:PE X a ta)(hb:PE X (.BoolOp .And (b::rest) pos) tb):PE X (.BoolOp .And (a::b::rest) pos) (Zj7 ta tb):=by
 intro pins s σ H Q I h
 refine BoolOp_and (thn (ha pins s σ H _ I h) fun v s1 ⟨x,H1,I1,r1,q1⟩=>?_)
 obtain⟨c,rfl,q1⟩:=q1
 cases r1
 refine wpAny_truthy_bool ?_
 cases c with
 | true=>exact hb pins s1 σ H1 Q I1 q1
 | false=>exact⟨.bl false,H1,I1,rfl,q1⟩
def tIf (t:TT)(ta tb:TE):TE:=fun σ H Q=>t σ H fun c H1=>if c=true then ta σ H1 Q else tb σ H1 Q
end
def SqL (K:PySem.W.Frag)(H:Hp)(a:Addr)(xs:List V):Prop:=
 Rd H a (.lst xs) ∨
  ∃(o:Obj) (its:Array Value) (n:Nat),K.lookup a=some o∧o.cls=.type "list"∧o.dict=none∧o.data=.seq its n∧its.size≤sizeLine∧Vals xs its.toList
def SqT (K:PySem.W.Frag)(H:Hp)(a:Addr)(xs:List V):Prop:=
 Rd H a (.tup xs) ∨
  ∃(o:Obj) (its:Array Value) (n:Nat),K.lookup a=some o∧o.cls=.type "tuple"∧o.data=.seq its n∧its.size≤sizeLine∧Vals xs its.toList
def absV:Value→Option V
 | .none=>some .non
 | .bool b=>some (.bl b)
 | .int i _=>some (.int i)
 | .str x _=>some (.str x)
 | .bytes b _=>some (.byt b)
 | .float b _=>some (.flt b)
 | .ref a=>some (.ref a)
 | .type n=>some (.ty n)
 | _=>none
theorem RelV.abs {x:V}{u:Value}(r:RelV x u):absV u=some x:=by
 cases x with
 | non=>cases r;rfl
 | bl _=>cases r;rfl
 | int _=>obtain⟨t,rfl⟩:=r;rfl
 | str _=>obtain⟨t,rfl⟩:=r;rfl
 | byt _=>obtain⟨t,rfl⟩:=r;rfl
 | flt _=>obtain⟨t,rfl⟩:=r;rfl
 | ref _=>cases r;rfl
 | ty _=>cases r;rfl
theorem RelV.inj {x y:V}{u:Value}(r:RelV x u)(q:RelV y u):x=y:=Option.some.inj (r.abs.symm.trans q.abs)
theorem Vals.inj:∀ {xs ys:List V} {us:List Value},Vals xs us→Vals ys us→xs=ys
 | _,_,_,.nil,.nil=>rfl
 | _,_,_,.cons r t,.cons r' t'=>by rw[r.inj r',Vals.inj t t']
section
variable {X:Cx}{pins:List (Addr×Obj)}{σ:St}{H:Hp}{s:Shared}{a:Addr}{xs ys:List V}
theorem Inv.list (I:Inv X pins σ H s)(h:SqL X.K H a xs):∃its:List Value,Vals xs its∧PlainL s.heap a its.toArray∧xs.length≤sizeLine:=by
 rcases h with h | ⟨o,its,n,hk,hc,hd,hs,hz,r⟩
 ·obtain⟨z,its,n,r,e⟩:=h.ok I.hok
  exact⟨its,r,⟨_,n,e,rfl,rfl,rfl⟩,z⟩
 ·refine⟨its.toList,r,⟨o,n,I.kIn a o hk,hc,hd,by simpa using hs⟩,?_⟩
  have e:=r.length
  simp only[Array.length_toList]at e
  omega
theorem Inv.tuple (I:Inv X pins σ H s)(h:SqT X.K H a xs):∃its:List Value,Vals xs its∧IsTup s.heap a its.toArray∧xs.length≤sizeLine:=by
 rcases h with h | ⟨o,its,n,hk,hc,hs,hz,r⟩
 ·obtain⟨z,its,r,p⟩:=h.ok I.hok
  exact⟨its,r,p,z⟩
 ·refine⟨its.toList,r,⟨o,I.kIn a o hk,hc,n,by simpa using hs⟩,?_⟩
  have e:=r.length
  simp only[Array.length_toList]at e
  omega
theorem Inv.list_inj (I:Inv X pins σ H s)(h:SqL X.K H a xs)(h':SqL X.K H a ys):xs=ys:=by
 obtain⟨its,r,⟨o,n,e,_,_,d⟩,_⟩:=I.list h
 obtain⟨its',r',⟨o',n',e',_,_,d'⟩,_⟩:=I.list h'
 rw[e]at e';cases e'
 rw[d]at d'
 injection d' with d1 _
 have:its=its':=by simpa using congrArg Array.toList d1
 subst this
 exact r.inj r'
theorem Inv.tuple_inj (I:Inv X pins σ H s)(h:SqT X.K H a xs)(h':SqT X.K H a ys):xs=ys:=by
 obtain⟨its,r,⟨o,e,_,n,d⟩,_⟩:=I.tuple h
 obtain⟨its',r',⟨o',e',_,n',d'⟩,_⟩:=I.tuple h'
 rw[e]at e';cases e'
 rw[d]at d'
 injection d' with d1 _
 have:its=its':=by simpa using congrArg Array.toList d1
 subst this
 exact r.inj r'
end
abbrev Cx.wish (X:Cx)(E:Value→Shared→Prop):Cx:={ X with xe:=E }
abbrev Cx.nox (X:Cx):Cx:=X.wish fun _ _=>False
theorem Cx.Ok.wish {X:Cx}(ok:X.Ok)(E:Value→Shared→Prop):(X.wish E).Ok:=
 ⟨ok.mod,ok.kind,ok.glob,ok.blt,ok.above,ok.inj,ok.has,ok.cab,ok.hd,ok.frames,ok.stk,ok.exf,ok.bs,ok.bsz,ok.noex,ok.exfs,ok.funs,ok.frf⟩
theorem Cx.Ok.unwish {X:Cx}{E:Value→Shared→Prop}(ok:(X.wish E).Ok):X.Ok:=
 ⟨ok.mod,ok.kind,ok.glob,ok.blt,ok.above,ok.inj,ok.has,ok.cab,ok.hd,ok.frames,ok.stk,ok.exf,ok.bs,ok.bsz,ok.noex,ok.exfs,ok.funs,ok.frf⟩
section
variable {X:Cx}{pins:List (Addr×Obj)}{σ:St}{H:Hp}{s:Shared}{E:Value→Shared→Prop}
theorem Inv.wish (I:Inv X pins σ H s)(E:Value→Shared→Prop):Inv (X.wish E) pins σ H s:=⟨I.ok.wish E,I.os,I.bare,I.base,I.loc,I.cell,I.free,I.freeC,I.pin,I.hok,I.len⟩
theorem Inv.unwish (I:Inv (X.wish E) pins σ H s):Inv X pins σ H s:=⟨I.ok.unwish,I.os,I.bare,I.base,I.loc,I.cell,I.free,I.freeC,I.pin,I.hok,I.len⟩
theorem SP.unwish {D:Ends}{f:Flow}{s':Shared}(h:SP (X.wish E) pins D f s'):SP X pins D f s':=by
 cases f with
 | next=>obtain⟨σ',H',I,q⟩:=h;exact⟨σ',H',I.unwish,q⟩
 | brk=>obtain⟨σ',H',I,q⟩:=h;exact⟨σ',H',I.unwish,q⟩
 | cont=>obtain⟨σ',H',I,q⟩:=h;exact⟨σ',H',I.unwish,q⟩
 | ret u=>obtain⟨v,σ',H',I,r,q⟩:=h;exact⟨v,σ',H',I.unwish,r,q⟩
theorem PSs.nox {st:List Stmt}{t:TS}(h:PSs X.nox st t):PSs X st t:=fun pins s σ H D I hw=>
 wpAny_mono (h pins s σ H D (I.wish _) hw) (fun _ _ q=>q.unwish) fun _ _ z=>False.elim z
end
section
variable {X:Cx}{st:Stmt}{rest:List Stmt}{t u:TS}{e:Expr}{te:TE}{pos:Pos}
def tNext:TS:=fun D σ H=>D.nx σ H
def tSeq (t u:TS):TS:=fun D σ H=>t { D with nx:=u D } σ H
theorem ZaB:PSs X [] tNext:=fun _ _ σ H _ I h=>wpAny_execs_nil ⟨σ,H,I,h⟩
theorem Zab (h1:PS X st t)(h2:PSs X rest u):PSs X (st::rest) (tSeq t u):=by
 intro pins s σ H D I h
 refine wpAny_execs_cons (thn (h1 pins s σ H { D with nx:=u D } I h) fun f s1 q=>?_)
 cases f with
 | next=>
  obtain⟨σ',H',I',q⟩:=q
  exact h2 pins s1 σ' H' D I' q
 | ret v=>exact q
 | brk=>exact q
 | cont=>exact q
theorem Zag (h1:PS X st t):PSs X [st] t:=by
 intro pins s σ H D I h
 refine wpAny_execs_cons (thn (h1 pins s σ H D I h) fun f s1 q=>?_)
 cases f with
 | next=>exact wpAny_execs_nil q
 | ret v=>exact q
 | brk=>exact q
 | cont=>exact q
theorem Inv.quiet {pins:List (Addr×Obj)}{σ:St}{H:Hp}{s:Shared}(I:Inv X pins σ H s):interactive X.env=false:=by simp[interactive,I.ok.kind]
def Zj0 (te:TE):TS:=fun D σ H=>te σ H fun _ H1=>D.nx σ H1
theorem ZaU (he:PE X e te)(hs:swapsWith e none pos.line X.env=pure false:=by rfl):PS X (.Expr e pos) (Zj0 te):=by
 intro pins s σ H D I h
 exact wpAny_Expr_any (thn (he pins s σ H _ I h) fun v s1 ⟨x,H1,I1,r1,q1⟩=>⟨σ,H1,I1,q1⟩) I.quiet hs
def tRet (te:TE):TS:=fun D σ H=>te σ H D.rt
theorem Zat (he:PE X e te):PS X (.Return (some e) pos) (tRet te):=by
 intro pins s σ H D I h
 exact wpAny_Return_some (thn (he pins s σ H _ I h) fun v s1 ⟨x,H1,I1,r1,q1⟩=>⟨x,σ,H1,I1,r1,q1⟩)
def Zln:TS:=fun D _ H=>D.rt .non H
def tIfS (c:TT)(t u:TS):TS:=fun D σ H=>c σ H fun b H1=>if b=true then t D σ H1 else u D σ H1
theorem Zbd {c:Expr}{a b:List Stmt}{tc:TT}(hc:PT X c tc)(ha:PSs X a t)(hb:PSs X b u):PS X (.If c a b pos) (tIfS tc t u):=by
 intro pins s σ H D I h
 refine wpAny_If (thn (hc pins s σ H _ I h) fun d s1 ⟨H1,I1,q1⟩=>?_)
 cases d with
 | true=>exact ha pins s1 σ H1 D I1 q1
 | false=>exact hb pins s1 σ H1 D I1 q1
end
abbrev TG:=V→St→Hp→(St→Hp→Prop)→Prop
abbrev TGs:=List V→St→Hp→(St→Hp→Prop)→Prop
def PG (X:Cx)(target:Expr)(t:TG):Prop:=
 ∀(pins:List (Addr×Obj)) (s:Shared) (σ:St) (H:Hp) (v:V) (u:Value) (Q:St→Hp→Prop),Inv X pins σ H s→RelV v u→t v σ H Q →
  wpAny (model X.prog X.w) X.A (assign target X.env u) (fun _ s'=>∃σ' H',Inv X pins σ' H' s'∧Q σ' H') X.xe s
abbrev TIp:=V→V→Hp→VK→Prop
section
variable {X:Cx}{pos:Pos}
def Zb1 (i:Nat):TG:=fun v σ H Q=>Q (σ.set i (some v)) H
theorem ZaD {i:Nat}{x:Str}(hN:X.N.Nodup)(hi:X.N[i]?=some x)(hx:Loc X.env.scope x)(hf:X.fn x=true∨X.env.scope.names.lookup x=some .local:=by first | exact .inl rfl | exact .inr rfl | assumption):PG X (.Name x pos) (Zb1 i):=by
 intro pins s σ H v u Q I r h
 exact wpAny_assign_Name (Ze2 I hN hi hx r (fun s' I'=>⟨_,H,I',h⟩) hf)
def gNil:TGs:=fun vs σ H Q=>vs=[]∧Q σ H
def ZmN (t:TG)(u:TGs):TGs:=fun vs σ H Q=>∃v r,vs=v::r∧t v σ H fun σ' H'=>u r σ' H' Q
def gTup (K:PySem.W.Frag)(n:Nat)(t:TGs):TG:=fun v σ H Q=>∃a xs,v=.ref a∧SqT K H a xs∧xs.length=n∧t xs σ H Q
def tAsg (te:TE)(g:TG):TS:=fun D σ H=>te σ H fun x H1=>g x σ H1 D.nx
theorem Zaq {i:Nat}{x:Str}{e:Expr}{te:TE}{pos':Pos}(hN:X.N.Nodup)(hi:X.N[i]?=some x)(hx:Loc X.env.scope x)(he:PE X e te)(hs:swapsWith e (some (.Name x pos')) pos.line X.env=pure false:=by rfl)(hf:X.fn x=true∨X.env.scope.names.lookup x=some .local:=by first | exact .inl rfl | exact .inr rfl | assumption):
  PS X (.Assign [.Name x pos'] e pos) (tAsg te (Zb1 i)):=by
 intro pins s σ H D I h
 refine wpAny_Assign_Name (thn (he pins s σ H _ I h) fun v s1 ⟨y,H1,I1,r1,q1⟩=>?_) hs
 exact Ze2 I1 hN hi hx r1 (fun s2 I2=>⟨_,H1,I2,q1⟩) hf
def tPar (i j:Nat)(ta:TA):TS:=fun D σ H=>ta σ H fun vs H1=>∃v w,vs=[v,w]∧D.nx ((σ.set i (some v)).set j (some w)) H1
def tAug (i:Nat)(te:TE)(ti:TIp):TS:=fun D σ H=>∃x,σ[i]?=some (some x)∧te σ H fun y H1=>ti x y H1 fun z H2=>D.nx (σ.set i (some z)) H2
def ipI (f:Int→Int→Int):TIp:=fun x y H Q=>∃i j,x=.int i∧y=.int j∧Q (.int (f i j)) H
end
section
variable {X:Cx}{pos:Pos}
def Zgg (c:TT)(tb:TS):TS:=fun D σ H=>∃W:Nat→St→Hp→Prop,(∃m,W m σ H)∧∀m σ H,W m σ H →
 c σ H fun b H1=>if b=true then ∃N:St→Hp→Prop,(∀σ' H',N σ' H'→∃m',m'<m∧W m' σ' H')∧tb { D with nx:=N,ct:=N,bk:=D.nx } σ H1 else D.nx σ H1
theorem Ze7 {c:Expr}{body:List Stmt}{tc:TT}{tb:TS}(hp:PassesOwn (model X.prog X.w) X.A X.env X.xe)(hc:PT X c tc)(hb:PSs X body tb):PS X (.While c body [] pos) (Zgg tc tb):=by
 intro pins s σ H D I h
 obtain⟨W,⟨m0,w0⟩,turn⟩:=h
 refine wpAny_While (codeAny_whileLoop (fun n s'=>∃σ' H',Inv X pins σ' H' s'∧W n σ' H') ?_ m0 ⟨σ,H,I,w0⟩)
 rintro n s1 ⟨σ1,H1,I1,w1⟩
 refine wpAny_passesOwn hp (thn (hc pins s1 σ1 H1 _ I1 (turn n σ1 H1 w1)) fun b s2 ⟨H2,I2,q2⟩=>?_)
 cases b with
 | true=>
  obtain⟨N,hN,q2⟩:=q2
  rw[if_pos rfl]
  refine wpAny_passesOwn hp (thn (hb pins s2 σ1 H2 _ I2 q2) fun f s3 q3=>?_)
  cases f with
  | next=>
   obtain⟨σ3,H3,I3,n3⟩:=q3
   obtain⟨m',hm,w3⟩:=hN σ3 H3 n3
   exact⟨m',hm,σ3,H3,I3,w3⟩
  | cont=>
   obtain⟨σ3,H3,I3,n3⟩:=q3
   obtain⟨m',hm,w3⟩:=hN σ3 H3 n3
   exact⟨m',hm,σ3,H3,I3,w3⟩
  | brk=>exact q3
  | ret v=>exact q3
 | false=>
  rw[if_neg Bool.false_ne_true]
  exact wpAny_execs_nil ⟨σ1,H2,I2,q2⟩
end
structure It where
 go:Nat→Hp→Prop
 yld:Nat→Hp→V→Hp→Prop
 stop:Nat→Hp→Prop
def FpOk (X:Cx)(pins:List (Addr×Obj))(H:Hp)(b:Addr):Prop:=
 H b=none∧b≠X.env.locals∧b∉X.fs∧(b∈X.ex∨X.s₀.heap.objs.size≤b)∧(∀x c,X.env.cells.lookup x=some c→c≠b)∧∀p∈X.pn++pins,p.1≠b
theorem Inv.fpOk {X:Cx}{pins:List (Addr×Obj)}{σ:St}{H H':Hp}{s:Shared}{b:Addr}(I:Inv X pins σ H s)(hb:s.heap.objs.size≤b)(hn:H' b=none):FpOk X pins H' b:=by
 refine⟨hn,Nat.ne_of_gt (Nat.lt_of_lt_of_le I.lt hb),I.nofs hb,.inr (Nat.le_trans I.sz hb),fun x c e z=>?_,fun p hp z=>?_⟩
 ·obtain⟨v,q⟩:=I.cell x c e
  exact absurd (Nat.lt_of_lt_of_le q.lt (by rw[z];exact hb)) (Nat.lt_irrefl _)
 ·exact absurd (Nat.lt_of_lt_of_le (Heap.lt_size (I.pin p hp).1) (by rw[z];exact hb)) (Nat.lt_irrefl _)
structure Turn (P:Program)(w:World)(K:PySem.W.Frag)(tg:Expr)(J:It)(fp:List Addr)(it:Addr)(tn:Nat→Heap→Prop):Prop where
 mem:it∈fp
 obj:∀i h,tn i h→∀b∈fp,∃o,h.get? b=some o∧∀v,o.data≠.cell v
 keep:∀i h h',tn i h→(∀b∈fp,∀o,h.get? b=some o→h'.get? b=some o)→tn i h'
 item:∀(X:Cx),X.prog=P→X.w=w→X.K=K→X.calm=true→∀(i:Nat) (pins:List (Addr×Obj)) (s:Shared) (σ:St) (H:Hp) (E:Value→Shared→Prop),Inv X pins σ H s→(∀b∈fp,FpOk X pins H b)→tn i s.heap→J.go i H →
  wpAny (model P w) X.A (pyNext (.ref it)) (fun r s1=>∃u,r=some u ∧
   wpAny (model P w) X.A (letOwnedTupleGo tg (.ref it) u) (fun _ s2=>∃x H',Inv X pins σ H' s2∧RelV x u∧J.yld i H x H'∧tn (i+1) s2.heap∧∀b∈fp,H' b=none) E s1) E s
 done:∀(X:Cx),X.prog=P→X.w=w→X.K=K→X.calm=true→∀(i:Nat) (pins:List (Addr×Obj)) (s:Shared) (σ:St) (H:Hp) (E:Value→Shared→Prop),Inv X pins σ H s→(∀b∈fp,FpOk X pins H b)→tn i s.heap→J.stop i H →
  wpAny (model P w) X.A (pyNext (.ref it)) (fun r s1=>r=none∧Inv X pins σ H s1) E s
 self:∀(A:Around) (i:Nat) (s:Shared) (Q:Value→Shared→Prop) (E:Value→Shared→Prop),tn i s.heap→Q (.ref it) s→wpAny (model P w) A (pyIter (.ref it)) Q E s
abbrev TI:=St→Hp→(It→Hp→Prop)→Prop
def PIE (X:Cx)(pins:List (Addr×Obj))(σ:St)(tg:Expr)(R:It→Hp→Prop)(itv:Value)(s2:Shared):Prop:=
 ∃(it:Addr) (fp:List Addr) (tn:Nat→Heap→Prop) (J:It) (H':Hp),itv=.ref it∧Inv X pins σ H' s2∧Turn X.prog X.w X.K tg J fp it tn∧tn 0 s2.heap∧(∀b∈fp,FpOk X pins H' b)∧R J H'
def PI (X:Cx)(tg iter:Expr)(wi:TI):Prop:=
 ∀(pins:List (Addr×Obj)) (s:Shared) (σ:St) (H:Hp) (R:It→Hp→Prop),Inv X pins σ H s→wi σ H R →
  wpAny (model X.prog X.w) X.A (eval iter X.env) (fun v s1=>wpAny (model X.prog X.w) X.A (pyIter v) (PIE X pins σ tg R) X.xe s1) X.xe s
theorem Zg3 {M:Model}{A:Around}{E:Value→Shared→Prop}{s:Shared}{tg:Expr}{it:Addr}{u:Value}{o:Obj}{n:String}{vs:Array Value}{Q:Unit→Shared→Prop}(ho:s.heap.get? it=some o)(hc:o.cls=.type n)(hd:o.data=.fields vs)
    (hn:["enumerate","zip","dict_itemiterator","dict_reverseitemiterator","odict_iterator","itertools.zip_longest","itertools.pairwise"].contains n=false) (hQ:Q () s):wpAny M A (letOwnedTupleGo tg (.ref it) u) Q E s:=by
  unfold letOwnedTupleGo
  cases tg<;>first
    | exact wpAny_pure hQ
    | (cases u<;>first
        | exact wpAny_pure hQ
        | (refine wpAny_bind (wpAny_load ho ?_)
           rw[hc,hd]
           show wpAny M A (if (["enumerate","zip","dict_itemiterator","dict_reverseitemiterator","odict_iterator","itertools.zip_longest","itertools.pairwise"].contains n&&vs[0]? == some (rawInt _))=true then _ else _) Q E s
           rw[if_neg (by intro h;rw[hn,Bool.false_and]at h;cases h)]
           exact wpAny_pure hQ))
def Itl (K:PySem.W.Frag)(a:Addr):It:=
 ⟨fun i H=>∃xs x,SqL K H a xs∧xs[i]?=some x,fun i H x H'=>H'=H∧∀xs,SqL K H a xs→xs[i]?=some x,fun i H=>∃xs,SqL K H a xs∧xs.length≤i⟩
def Itt (K:PySem.W.Frag)(a:Addr):It:=
 ⟨fun i H=>∃xs x,SqT K H a xs∧xs[i]?=some x,fun i H x H'=>H'=H∧∀xs,SqT K H a xs→xs[i]?=some x,fun i H=>∃xs,SqT K H a xs∧xs.length≤i⟩
def Itr (lo:Int)(n:Nat):It:=⟨fun i _=>i<n,fun i H x H'=>H'=H∧x=.int (lo+i),fun i _=>n≤i⟩
theorem Zge {P:Program}{w:World}{K:PySem.W.Frag}{tg:Expr}(a it:Addr):Turn P w K tg (Itl K a) [it] it (fun i h=>h.IsListIter it a i) where
 mem:=by simp
 obj:=fun i h st b hb=>by
  have e:b=it:=by simpa using hb
  subst e
  obtain⟨o,e,c,d⟩:=st
  exact⟨o,e,fun v z=>by rw[d]at z;cases z⟩
 keep:=fun i h h' st k=>st.at fun o e=>k it (by simp) o e
 item:=by
  intro X hP hw hK hc i pins s σ H E I hf st hg
  subst hP hw hK
  obtain⟨xs,x,hq,hx⟩:=hg
  obtain⟨its,rv,p,hz⟩:=I.list hq
  obtain⟨u,hu,ru⟩:=rv.get hx
  obtain⟨f0,f1,f2,f3,f4,f5⟩:=hf it (by simp)
  refine wpAny_pyNext_list_item st p.isList (x:=u) (by simpa using hu) fun h' st' sb=>?_
  have I1:Inv X pins σ H { s with heap:=h' }:=I.turned (t':=s.toks) (fun b o hb e=>(sb.2 b hb).trans e) f0 f1 f3 f4 f5
  obtain⟨o,e,c,d⟩:=id st'
  exact⟨u,rfl,Zg3 (s:={ s with heap:=h' }) e c d (by decide) ⟨x,H,I1,ru,⟨rfl,fun ys hy=>by rw[I.list_inj hy hq];exact hx⟩,st',fun b hb=>(hf b hb).1⟩⟩
 done:=by
  intro X hP hw hK hc i pins s σ H E I hf st hg
  subst hP hw hK
  obtain⟨xs,hq,hx⟩:=hg
  obtain⟨its,rv,p,hz⟩:=I.list hq
  obtain⟨f0,f1,f2,f3,f4,f5⟩:=hf it (by simp)
  have hl:=rv.length
  exact wpAny_pyNext_list_end (I.ok.hd hc) st p.isList (by simp;omega) fun h' eb=>⟨rfl,I.turned (t':=s.toks) (fun b o hb e=>eb b o hb e) f0 f1 f3 f4 f5⟩
 self:=fun _ _ _ _ _ st h=>wpAny_pyIter_listiter st h
theorem ZfB {P:Program}{w:World}{K:PySem.W.Frag}{tg:Expr}(a it:Addr):Turn P w K tg (Itt K a) [it] it (fun i h=>h.IsTupleIter it a i) where
 mem:=by simp
 obj:=fun i h st b hb=>by
  have e:b=it:=by simpa using hb
  subst e
  obtain⟨o,e,c,d⟩:=st
  exact⟨o,e,fun v z=>by rw[d]at z;cases z⟩
 keep:=fun i h h' st k=>st.at fun o e=>k it (by simp) o e
 item:=by
  intro X hP hw hK hc i pins s σ H E I hf st hg
  subst hP hw hK
  obtain⟨xs,x,hq,hx⟩:=hg
  obtain⟨its,rv,p,hz⟩:=I.tuple hq
  obtain⟨u,hu,ru⟩:=rv.get hx
  obtain⟨f0,f1,f2,f3,f4,f5⟩:=hf it (by simp)
  refine wpAny_pyNext_tuple_item st (show s.heap.IsTuple a its.toArray from p) (x:=u) (by simpa using hu) fun h' st' sb=>?_
  have I1:Inv X pins σ H { s with heap:=h' }:=I.turned (t':=s.toks) (fun b o hb e=>(sb.2 b hb).trans e) f0 f1 f3 f4 f5
  obtain⟨o,e,c,d⟩:=id st'
  exact⟨u,rfl,Zg3 (s:={ s with heap:=h' }) e c d (by decide) ⟨x,H,I1,ru,⟨rfl,fun ys hy=>by rw[I.tuple_inj hy hq];exact hx⟩,st',fun b hb=>(hf b hb).1⟩⟩
 done:=by
  intro X hP hw hK hc i pins s σ H E I hf st hg
  subst hP hw hK
  obtain⟨xs,hq,hx⟩:=hg
  obtain⟨its,rv,p,hz⟩:=I.tuple hq
  obtain⟨f0,f1,f2,f3,f4,f5⟩:=hf it (by simp)
  have hl:=rv.length
  exact wpAny_pyNext_tuple_end (I.ok.hd hc) st (show s.heap.IsTuple a its.toArray from p) (by simp;omega) fun h' eb=>⟨rfl,I.turned (t':=s.toks) (fun b o hb e=>eb b o hb e) f0 f1 f3 f4 f5⟩
 self:=fun _ _ _ _ _ st h=>wpAny_pyIter_tupleiter st h
theorem ZfC {P:Program}{w:World}{K:PySem.W.Frag}{tg:Expr}(it:Addr)(lo:Int)(n:Nat):Turn P w K tg (Itr lo n) [it] it (fun i h=>IsRangeIter h it (lo+(i:Nat)*1) ((n:Int)-(i:Nat)) 1) where
 mem:=by simp
 obj:=fun i h st b hb=>by
  have e:b=it:=by simpa using hb
  subst e
  exact⟨_,st,fun v z=>by
   have z':Data.fields _=Data.cell v:=z
   cases z'⟩
 keep:=fun i h h' st k=>k it (by simp) _ st
 item:=by
  intro X hP hw hK hc i pins s σ H E I hf st hg
  subst hP hw hK
  obtain⟨f0,f1,f2,f3,f4,f5⟩:=hf it (by simp)
  have W:=Walks.range (prog:=X.prog) (w:=X.w) (I.ok.hd hc) it lo 1 n
  refine W.item i s _ _ hg st fun v h' tk hv st' kk=>?_
  obtain⟨t,rfl⟩:=hv
  have I1:Inv X pins σ H { s with heap:=h',toks:=tk }:=I.turned (fun b o hb e=>kk b o (by simpa using hb) e) f0 f1 f3 f4 f5
  refine⟨_,rfl,Zg3 (s:={ s with heap:=h',toks:=tk }) (n:="range_iterator") st' rfl rfl (by decide) ⟨.int (lo+i),H,I1,⟨t,?_⟩,⟨rfl,rfl⟩,st',fun b hb=>(hf b hb).1⟩⟩
  rw[Int.mul_one]
 done:=by
  intro X hP hw hK hc i pins s σ H E I hf st hg
  subst hP hw hK
  obtain⟨f0,f1,f2,f3,f4,f5⟩:=hf it (by simp)
  exact wpAny_pyNext_range_end (I.ok.hd hc) st (by have:n≤i:=hg;omega) fun h' eb=>⟨rfl,I.turned (t':=s.toks) (fun b o hb e=>eb b o hb e) f0 f1 f3 f4 f5⟩
 self:=fun _ _ _ _ _ st h=>wpAny_pyIter_rangeiter st h
section
variable {X:Cx}{tg:Expr}
def Zjs (K:PySem.W.Frag)(tl:TE):TI:=fun σ H R=>tl σ H fun x H1=>∃a,x=.ref a∧(∃xs,SqL K H1 a xs)∧R (Itl K a) H1
def iTup (K:PySem.W.Frag)(tl:TE):TI:=fun σ H R=>tl σ H fun x H1=>∃a,x=.ref a∧(∃xs,SqT K H1 a xs)∧R (Itt K a) H1
theorem Zi9 {l:Expr}{tl:TE}(hl:PE X l tl):PI X tg l (Zjs X.K tl):=by
 intro pins s σ H R I h
 refine thn (hl pins s σ H _ I h) fun v s1 ⟨x,H1,I1,r1,q1⟩=>?_
 obtain⟨a,e,⟨xs,hq⟩,q⟩:=q1
 subst e
 cases r1
 obtain⟨its,rv,p,hz⟩:=I1.list hq
 refine wpAny_pyIter_list p.isList ?_
 refine⟨s1.heap.objs.size,[s1.heap.objs.size],_,_,H1,rfl,I1.kept (t':=s1.toks) fun b o e=>Heap.get?_push_of_some _ e,Zge a _,⟨_,Heap.get?_push_size _ rfl,rfl,rfl⟩,fun b hb=>?_,q⟩
 have e:b=s1.heap.objs.size:=by simpa using hb
 subst e
 exact I1.fpOk (Nat.le_refl _) (I1.hok.fresh (Nat.le_refl _))
theorem Zkh {l:Expr}{tl:TE}(hl:PE X l tl):PI X tg l (iTup X.K tl):=by
 intro pins s σ H R I h
 refine thn (hl pins s σ H _ I h) fun v s1 ⟨x,H1,I1,r1,q1⟩=>?_
 obtain⟨a,e,⟨xs,hq⟩,q⟩:=q1
 subst e
 cases r1
 obtain⟨its,rv,p,hz⟩:=I1.tuple hq
 refine wpAny_pyIter_tuple (show s1.heap.IsTuple a its.toArray from p) ?_
 refine⟨s1.heap.objs.size,[s1.heap.objs.size],_,_,H1,rfl,I1.kept (t':=s1.toks) fun b o e=>Heap.get?_push_of_some _ e,ZfB a _,⟨_,Heap.get?_push_size _ rfl,rfl,rfl⟩,fun b hb=>?_,q⟩
 have e:b=s1.heap.objs.size:=by simpa using hb
 subst e
 exact I1.fpOk (Nat.le_refl _) (I1.hok.fresh (Nat.le_refl _))
theorem Ze5 {pins:List (Addr×Obj)}{σ:St}{H:Hp}{s:Shared}{R:It→Hp→Prop}{E:Value→Shared→Prop}{lo hi:Int}{t u v:Tok}{tk:Nat}(I:Inv X pins σ H s)(h1:-(2 ^ 62)≤lo)(h2:lo<2 ^ 62)(h3:-(2 ^ 62)≤hi)(h4:hi<2 ^ 62)
  (q:R (Itr lo (hi-lo).toNat) H):wpAny (model X.prog X.w) X.A (pyIter (.ref s.heap.objs.size)) (PIE X pins σ tg R) E { s with heap:=s.heap.push { cls:=.type "range",data:=.fields #[.int lo t,.int hi u,.int 1 v] },toks:=tk }:=by
 refine wpAny_pyIter_range (IsRange.new ..) (small_one h1 h2 h3 h4) ?_
 have I1:Inv X pins σ H { s with heap:=s.heap.push { cls:=.type "range",data:=.fields #[.int lo t,.int hi u,.int 1 v] },toks:=tk }:=I.kept fun b o e=>Heap.get?_push_of_some _ e
 refine⟨(s.heap.push { cls:=.type "range",data:=.fields #[.int lo t,.int hi u,.int 1 v] }).objs.size,[(s.heap.push { cls:=.type "range",data:=.fields #[.int lo t,.int hi u,.int 1 v] }).objs.size],_,_,H,rfl,
  I1.kept (t':=tk) fun b o e=>Heap.get?_push_of_some _ e,ZfC _ lo (hi-lo).toNat,?_,fun b hb=>?_,q⟩
 ·have e1:lo+((0:Nat):Int)*1=lo:=by simp
  have e2:(((hi-lo).toNat:Nat):Int)-((0:Nat):Int)=Builtin.Range.rangeSize lo hi 1:=by rw[rangeSize_one];split<;>omega
  show IsRangeIter _ _ (lo+((0:Nat):Int)*1) ((((hi-lo).toNat:Nat):Int)-((0:Nat):Int)) 1
  rw[e1,e2]
  exact Heap.get?_push_size _ rfl
 ·have e:b=(s.heap.push { cls:=.type "range",data:=.fields #[.int lo t,.int hi u,.int 1 v] }).objs.size:=by simpa using hb
  subst e
  exact I1.fpOk (Nat.le_refl _) (I1.hok.fresh (Nat.le_refl _))
def ZkZ (ta:TA):TI:=fun σ H R=>ta σ H fun vs H1=>∃j:Int,vs=[.int j]∧-(2 ^ 62)≤j∧j<2 ^ 62∧R (Itr 0 j.toNat) H1
def ZkY (ta:TA):TI:=fun σ H R=>ta σ H fun vs H1=>∃i j:Int,vs=[.int i,.int j]∧(-(2 ^ 62)≤i∧i<2 ^ 62∧-(2 ^ 62)≤j∧j<2 ^ 62)∧R (Itr i (j-i).toNat) H1
theorem Zbe {a:Expr} {ta:TA} {p pos:Pos} (hg:Gl X "range") (hm:X.mg "range"=none) (ha:PA X [a] ta) (hs:starEach [a] X.env=[(false,eval a X.env)]:=by rfl):PI X tg (.Call (.Name "range" p) [a] [] pos) (ZkZ ta):=by
 intro pins s σ H R I h
 refine Call_ (Zcy I hg hm boot_range (PyProof.Rows.callWith_type1 (thn (ha pos pins s σ H _ I h) fun us s1 ⟨vs,H1,I1,r1,q1⟩=>?_) hs rfl))
 obtain⟨j,e,q1,q2,q⟩:=q1
 subst e
 cases r1 with
 | cons r rr=>
  cases rr
  obtain⟨t,rfl⟩:=r
  exact call_range_1 (Ze5 I1 (by omega) (by omega) q1 q2 (by simpa using q))
theorem Zgy {a b:Expr} {ta:TA} {p pos:Pos} (hg:Gl X "range") (hm:X.mg "range"=none) (ha:PA X [a,b] ta) (hs:starEach [a,b] X.env=[(false,eval a X.env),(false,eval b X.env)]:=by rfl) (hs2:starEach [b] X.env=[(false,eval b X.env)]:=by rfl):
  PI X tg (.Call (.Name "range" p) [a,b] [] pos) (ZkY ta):=by
 intro pins s σ H R I h
 refine Call_ (Zcy I hg hm boot_range (PyProof.Rows.callWith_type1 (thn (ha pos pins s σ H _ I h) fun us s1 ⟨vs,H1,I1,r1,q1⟩=>?_) (by rw[hs,hs2]) (by rw[hs2];rfl)))
 obtain⟨i,j,e,⟨q1,q2,q3,q4⟩,q⟩:=q1
 subst e
 cases r1 with
 | cons r rr=>
  cases rr with
  | cons r' rr=>
   cases rr
   obtain⟨t,rfl⟩:=r
   obtain⟨t',rfl⟩:=r'
   exact call_range_2 (Ze5 I1 q1 q2 q3 q4 q)
def tFor (wi:TI)(g:TG)(tb:TS):TS:=fun D σ H=>wi σ H fun J H1=>∃W:Nat→Nat→St→Hp→Prop,(∃m,W 0 m σ H1)∧∀i m σ H,W i m σ H →
 (J.stop i H∧D.nx σ H)∨(J.go i H∧∃N:St→Hp→Prop,(∀σ' H',N σ' H'→∃m',m'<m∧W (i+1) m' σ' H')∧∀x H',J.yld i H x H'→g x σ H' fun σ2 H2=>tb { D with nx:=N,ct:=N,bk:=D.nx } σ2 H2)
def ZdT (fp:List Addr)(h:Heap):List (Addr×Obj):=fp.filterMap fun b=>(h.get? b).map fun o=>(b,o)
theorem ZbA {fp:List Addr}{h:Heap}{b:Addr}{o:Obj}(hb:b∈fp)(e:h.get? b=some o):(b,o)∈ZdT fp h:=List.mem_filterMap.mpr ⟨b,hb,by rw[e];rfl⟩
theorem ZgH {fp:List Addr}{h:Heap}{p:Addr×Obj}(hp:p∈ZdT fp h):p.1∈fp∧h.get? p.1=some p.2:=by
 obtain⟨b,hb,e⟩:=List.mem_filterMap.mp hp
 cases q:h.get? b with
 | none=>rw[q]at e;cases e
 | some o=>
  rw[q]at e
  have e':(b,o)=p:=Option.some.inj e
  subst e'
  exact⟨hb,q⟩
theorem Inv.pinned {pins:List (Addr×Obj)}{σ:St}{H:Hp}{s:Shared}{fp:List Addr}(I:Inv X pins σ H s)(hf:∀b∈fp,FpOk X pins H b)(ho:∀b∈fp,∃o,s.heap.get? b=some o∧∀v,o.data≠.cell v):Inv X (pins++ZdT fp s.heap) σ H s:=
 I.pins_of fun p hp=>(List.mem_append.mp hp).elim (fun z=>I.pin p (List.mem_append_right _ z)) fun z=>by
  obtain⟨hb,e⟩:=ZgH z
  obtain⟨f0,f1,f2,_⟩:=hf p.1 hb
  obtain⟨o,e',d⟩:=ho p.1 hb
  rw[e]at e';cases e'
  exact⟨e,f0,f1,f2,d⟩
theorem Inv.unpinned {pins pl:List (Addr×Obj)}{σ:St}{H:Hp}{s:Shared}(I:Inv X (pins++pl) σ H s):Inv X pins σ H s:=I.pins_of fun p hp=>I.pin p (List.mem_append_right _ (List.mem_append_left _ hp))
theorem ZbE {iter:Expr}{body:List Stmt}{wi:TI}{g:TG}{tb:TS}{pos:Pos}(hp:PassesOwn (model X.prog X.w) X.A X.env X.xe)(hc:X.calm=true)(hi:PI X tg iter wi)(hg:PG X tg g)(hb:PSs X body tb)
  (hs:∀x,foldedSetIterable iter X.env x=pure x:=by intro _;rfl):PS X (.For tg iter body [] pos) (tFor wi g tb):=by
 intro pins s σ H D I h
 refine wpAny_For (thn (hi pins s σ H _ I h) fun v s1 h1=>thn h1 fun itv s2 h2=>?_) hs
 obtain⟨it,fp,tn,J,H2,e,I2,T,st2,f2,W,⟨m0,w0⟩,turn⟩:=h2
 subst e
 have stat:∀ {H':Hp},(∀b∈fp,H' b=none)→∀b∈fp,FpOk X pins H' b:=fun hn b hb=>⟨hn b hb,(f2 b hb).2⟩
 refine codeAny_forLoop_any (fun n s'=>∃i σ' H',Inv X pins σ' H' s'∧tn i s'.heap∧(∀b∈fp,H' b=none)∧W i n σ' H') ?_ m0 ⟨0,σ,H2,I2,st2,fun b hb=>(f2 b hb).1,w0⟩
 rintro n s3 ⟨i,σ3,H3,I3,st3,fr3,w3⟩
 rcases turn i n σ3 H3 w3 with⟨stop,qn⟩|⟨go,N,hN,step⟩
 ·refine wpAny_passesOwn hp (thn (T.done X rfl rfl rfl hc i pins s3 σ3 H3 X.xe I3 (stat fr3) st3 stop) fun r s4 ⟨hr,I4⟩=>?_)
  subst hr
  exact wpAny_execs_nil ⟨σ3,H3,I4,qn⟩
 ·refine wpAny_passesOwn hp (thn (T.item X rfl rfl rfl hc i pins s3 σ3 H3 X.xe I3 (stat fr3) st3 go) fun r s4 ⟨u,hr,h4⟩=>?_)
  subst hr
  refine wpAny_passesOwn hp (thn h4 fun _ s5 ⟨x,H5,I5,r5,y5,st5,fr5⟩=>?_)
  have I5':=I5.pinned (stat fr5) (T.obj _ _ st5)
  refine wpAny_passesOwn hp (thn (hg _ s5 σ3 H5 x u _ I5' r5 (step x H5 y5)) fun _ s6 ⟨σ6,H6,I6,q6⟩=>?_)
  refine wpAny_passesOwn hp (thn (hb _ s6 σ6 H6 _ I6 q6) fun f s7 q7=>?_)
  have again:∀ {σ7:St} {H7:Hp},Inv X (pins++ZdT fp s5.heap) σ7 H7 s7→N σ7 H7→∃m,m<n∧∃i σ' H',Inv X pins σ' H' s7∧tn i s7.heap∧(∀b∈fp,H' b=none)∧W i m σ' H':=fun {σ7 H7} I7 n7=>by
   obtain⟨m',hm,w7⟩:=hN σ7 H7 n7
   refine⟨m',hm,i+1,σ7,H7,I7.unpinned,T.keep _ _ _ st5 fun b hb o e=>(I7.pin (b,o) (List.mem_append_right _ (List.mem_append_right _ (ZbA hb e)))).1,fun b hb=>?_,w7⟩
   obtain⟨o,e,d⟩:=T.obj _ _ st5 b hb
   exact(I7.pin (b,o) (List.mem_append_right _ (List.mem_append_right _ (ZbA hb e)))).2.1
  cases f with
  | next=>obtain⟨σ7,H7,I7,n7⟩:=q7;exact again I7 n7
  | cont=>obtain⟨σ7,H7,I7,n7⟩:=q7;exact again I7 n7
  | brk=>obtain⟨σ7,H7,I7,q7⟩:=q7;exact⟨σ7,H7,I7.unpinned,q7⟩
  | ret v=>obtain⟨x7,σ7,H7,I7,r7,q7⟩:=q7;exact⟨x7,σ7,H7,I7.unpinned,r7,q7⟩
end
theorem Zib {K:PySem.W.Frag}{a:Addr}{xs:List V}{g:TG}{tb:TS}{D:Ends}{σ:St}{H:Hp}(Pv:Nat→St→Hp→Prop)(h0:Pv 0 σ H)(hl:∀i σ H,i≤xs.length→Pv i σ H→SqL K H a xs)
  (hs:∀i x σ H,xs[i]?=some x→Pv i σ H→g x σ H fun σ2 H2=>tb { D with nx:=Pv (i+1),ct:=Pv (i+1),bk:=D.nx } σ2 H2) (hd:∀σ H,Pv xs.length σ H→D.nx σ H):
  ∃W:Nat→Nat→St→Hp→Prop,(∃m,W 0 m σ H)∧∀i m σ H,W i m σ H →
   ((Itl K a).stop i H∧D.nx σ H)∨((Itl K a).go i H∧∃N:St→Hp→Prop,(∀σ' H',N σ' H'→∃m',m'<m∧W (i+1) m' σ' H')∧∀x H',(Itl K a).yld i H x H'→g x σ H' fun σ2 H2=>tb { D with nx:=N,ct:=N,bk:=D.nx } σ2 H2):=by
 refine⟨fun i m σ H=>m=xs.length-i∧i≤xs.length∧Pv i σ H,⟨xs.length,by simp,Nat.zero_le _,h0⟩,?_⟩
 rintro i m σ H ⟨rfl,hi,p⟩
 have q:=hl i σ H hi p
 by_cases hlt:i<xs.length
 ·refine .inr ⟨⟨xs,xs[i],q,by simp[hlt]⟩,Pv (i+1),fun σ' H' p'=>⟨xs.length-(i+1),by omega,rfl,hlt,p'⟩,fun x H' y=>?_⟩
  obtain⟨e,y⟩:=y
  subst e
  exact hs i x σ _ (y xs q) p
 ·have e:i=xs.length:=by omega
  subst e
  exact .inl ⟨⟨xs,q,Nat.le_refl _⟩,hd σ H p⟩
theorem Zg5 {lo:Int}{n:Nat}{g:TG}{tb:TS}{D:Ends}{σ:St}{H:Hp}(Pv:Nat→St→Hp→Prop)(h0:Pv 0 σ H)
  (hs:∀i σ H,i<n→Pv i σ H→g (.int (lo+i)) σ H fun σ2 H2=>tb { D with nx:=Pv (i+1),ct:=Pv (i+1),bk:=D.nx } σ2 H2) (hd:∀σ H,Pv n σ H→D.nx σ H):
  ∃W:Nat→Nat→St→Hp→Prop,(∃m,W 0 m σ H)∧∀i m σ H,W i m σ H →
   ((Itr lo n).stop i H∧D.nx σ H)∨((Itr lo n).go i H∧∃N:St→Hp→Prop,(∀σ' H',N σ' H'→∃m',m'<m∧W (i+1) m' σ' H')∧∀x H',(Itr lo n).yld i H x H'→g x σ H' fun σ2 H2=>tb { D with nx:=N,ct:=N,bk:=D.nx } σ2 H2):=by
 refine⟨fun i m σ H=>m=n-i∧i≤n∧Pv i σ H,⟨n,by simp,Nat.zero_le _,h0⟩,?_⟩
 rintro i m σ H ⟨rfl,hi,p⟩
 by_cases hlt:i<n
 ·refine .inr ⟨hlt,Pv (i+1),fun σ' H' p'=>⟨n-(i+1),by omega,rfl,hlt,p'⟩,fun x H' y=>?_⟩
  obtain⟨e,y⟩:=y
  subst e y
  exact hs i σ _ hlt p
 ·have e:i=n:=by omega
  subst e
  exact .inl ⟨Nat.le_refl _,hd σ H p⟩
abbrev R2:=V→V→Hp→VK→Prop
def OpR (X:Cx)(f:Value→Value→Sem Value)(r:R2):Prop:=
 ∀(pins:List (Addr×Obj)) (s:Shared) (σ:St) (H:Hp) (x y:V) (v u:Value) (Q:VK),Inv X pins σ H s→RelV x v→RelV y u→r x y H Q →
  wpAny (model X.prog X.w) X.A (f v u) (EP X pins σ Q) X.xe s
def UnR (X:Cx)(f:Value→Sem Value)(r:V→Hp→VK→Prop):Prop:=
 ∀(pins:List (Addr×Obj)) (s:Shared) (σ:St) (H:Hp) (x:V) (v:Value) (Q:VK),Inv X pins σ H s→RelV x v→r x H Q →
  wpAny (model X.prog X.w) X.A (f v) (EP X pins σ Q) X.xe s
def Zb5 (X:Cx)(f:Value)(r:List V→Hp→VK→Prop):Prop:=
 ∀(pins:List (Addr×Obj)) (s:Shared) (σ:St) (H:Hp) (xs:List V) (us:List Value) (Q:VK),Inv X pins σ H s→Vals xs us→r xs H Q →
  wpAny (model X.prog X.w) X.A (call f us) (EP X pins σ Q) X.xe s
def TruR (X:Cx)(r:V→Hp→(Bool→Hp→Prop)→Prop):Prop:=
 ∀(pins:List (Addr×Obj)) (s:Shared) (σ:St) (H:Hp) (x:V) (v:Value) (Q:Bool→Hp→Prop),Inv X pins σ H s→RelV x v→r x H Q →
  wpAny (model X.prog X.w) X.A (truthy v) (TP X pins σ Q) X.xe s
def tOp (r:R2)(ta tb:TE):TE:=fun σ H Q=>ta σ H fun x H1=>tb σ H1 fun y H2=>r x y H2 Q
def tUn (r:V→Hp→VK→Prop)(ta:TE):TE:=fun σ H Q=>ta σ H fun x H1=>r x H1 Q
def rI (C:Int→Int→Prop)(g:Int→Int→V):R2:=fun x y H Q=>∃i j,x=.int i∧y=.int j∧C i j∧Q (g i j) H
def rI0 (g:Int→Int→V):R2:=fun x y H Q=>∃i j,x=.int i∧y=.int j∧Q (g i j) H
def rU (g:Int→V):V→Hp→VK→Prop:=fun x H Q=>∃i,x=.int i∧Q (g i) H
section
variable {X:Cx}{a b c:Expr}{ta tb tc:TE}{pos:Pos}
theorem binT (ha:PE X a ta)(hb:PE X b tb){pins:List (Addr×Obj)}{s:Shared}{σ:St}{H:Hp}{R:V→V→Hp→Prop}(I:Inv X pins σ H s)
  (h:ta σ H fun x H1=>tb σ H1 fun y H2=>R x y H2) {Q:Value→Shared→Prop} {f:Value→Value→Sem Value}
  (hf:∀v u s2 x y H2,Inv X pins σ H2 s2→RelV x v→RelV y u→R x y H2→wpAny (model X.prog X.w) X.A (f v u) Q X.xe s2):
  wpAny (model X.prog X.w) X.A (eval a X.env) (fun v s₁=>wpAny (model X.prog X.w) X.A (eval b X.env) (fun u s₂=>wpAny (model X.prog X.w) X.A (f v u) Q X.xe s₂) X.xe s₁) X.xe s:=by
 refine thn (ha pins s σ H _ I h) fun v s1 ⟨x,H1,I1,r1,q1⟩=>?_
 refine thn (hb pins s1 σ H1 _ I1 q1) fun u s2 ⟨y,H2,I2,r2,q2⟩=>?_
 exact hf v u s2 x y H2 I2 r1 r2 q2
theorem Zax {op:Operator}{r:R2}(ho:OpR X (binaryOp op) r)(ha:PE X a ta)(hb:PE X b tb):PE X (.BinOp a op b pos) (tOp r ta tb):=by
 intro pins s σ H Q I h
 exact wpAny_BinOp (binT ha hb I h fun v u s2 x y H2 I2 rx ry q=>ho pins s2 σ H2 x y v u Q I2 rx ry q)
theorem Zmo {op:UnaryOp}{r:V→Hp→VK→Prop}(ho:UnR X (unaryOp op) r)(ha:PE X a ta):PE X (.UnaryOp op a pos) (tUn r ta):=by
 intro pins s σ H Q I h
 exact UnaryOp_ (thn (ha pins s σ H _ I h) fun v s1 ⟨x,H1,I1,r1,q1⟩=>ho pins s1 σ H1 x v Q I1 r1 q1)
theorem opI {f:Value→Value→Sem Value}{C:Int→Int→Prop}{g:Int→Int→Int}
  (rule:∀(i j:Int) (t u:Tok) (s:Shared) (Q:Value→Shared→Prop) (E:Value→Shared→Prop),C i j→Q (.int (g i j) s.toks) { s with toks:=s.toks+1 }→wpAny (model X.prog X.w) X.A (f (.int i t) (.int j u)) Q E s):
  OpR X f (rI C fun i j=>.int (g i j)):=by
 intro pins s σ H x y v u Q I rx ry h
 obtain⟨i,j,rfl,rfl,hc,q⟩:=h
 obtain⟨t,rfl⟩:=rx
 obtain⟨t',rfl⟩:=ry
 exact rule i j t t' s _ _ hc ⟨.int (g i j),H,I.tok _,⟨_,rfl⟩,q⟩
theorem opI0 {f:Value→Value→Sem Value}{g:Int→Int→Int}
  (rule:∀(i j:Int) (t u:Tok) (s:Shared) (Q:Value→Shared→Prop) (E:Value→Shared→Prop),Q (.int (g i j) s.toks) { s with toks:=s.toks+1 }→wpAny (model X.prog X.w) X.A (f (.int i t) (.int j u)) Q E s):
  OpR X f (rI0 fun i j=>.int (g i j)):=by
 intro pins s σ H x y v u Q I rx ry h
 obtain⟨i,j,rfl,rfl,q⟩:=h
 obtain⟨t,rfl⟩:=rx
 obtain⟨t',rfl⟩:=ry
 exact rule i j t t' s _ _ ⟨.int (g i j),H,I.tok _,⟨_,rfl⟩,q⟩
theorem opB0 {f:Value→Value→Sem Value}{g:Int→Int→Bool}
  (rule:∀(i j:Int) (t u:Tok) (s:Shared) (Q:Value→Shared→Prop) (E:Value→Shared→Prop),Q (.bool (g i j)) s→wpAny (model X.prog X.w) X.A (f (.int i t) (.int j u)) Q E s):
  OpR X f (rI0 fun i j=>.bl (g i j)):=by
 intro pins s σ H x y v u Q I rx ry h
 obtain⟨i,j,rfl,rfl,q⟩:=h
 obtain⟨t,rfl⟩:=rx
 obtain⟨t',rfl⟩:=ry
 exact rule i j t t' s _ _ ⟨.bl (g i j),H,I,rfl,q⟩
def CDiv (i j:Int):Prop:=0<j∧j<1073741824
def CMul (i j:Int):Prop:=(-(2 ^ 64)<i∧i<2 ^ 64)∨(-(2 ^ 64)<j∧j<2 ^ 64)
theorem CMul.ok {i j:Int}(h:CMul i j):IntMulOk i j:=by
 rcases h with⟨h1,h2⟩|⟨h1,h2⟩
 ·exact .of_left (intBits_le_64 h1 h2)
 ·exact .of_right (intBits_le_64 h1 h2)
theorem ZaT:OpR X (binaryOp .Add) (rI0 fun i j=>.int (i+j)):=opI0 fun _ _ _ _ _ _ _ q=>add_int q
theorem Zkm:OpR X (binaryOp .Sub) (rI0 fun i j=>.int (i-j)):=opI0 fun _ _ _ _ _ _ _ q=>sub_int q
theorem Zc2:OpR X (binaryOp .Mult) (rI CMul fun i j=>.int (i*j)):=opI fun _ _ _ _ _ _ _ hc q=>mul_int q hc.ok
theorem Zjf:OpR X (binaryOp .FloorDiv) (rI CDiv fun i j=>.int (i/j)):=opI fun i j _ _ _ _ _ hc q=>by
 have h1:(0:Int)<j:=hc.1
 have h2:j<1073741824:=hc.2
 exact floordiv_int (by omega) (by rw[Int.fdiv_eq_ediv_of_nonneg i (by omega)];exact q) (.inl (PyProof.noPylong_small (by omega)))
theorem ZaP:OpR X (binaryOp .Mod) (rI (fun _ j=>0<j) fun i j=>.int (i % j)):=opI fun i j _ _ _ _ _ hc q=>by
 have h1:(0:Int)<j:=hc
 exact mod_int' (by omega) (by rw[Int.fmod_eq_emod_of_nonneg i (by omega)];exact q)
theorem unI {f:Value→Sem Value}{g:Int→Int}
  (rule:∀(i:Int) (t:Tok) (s:Shared) (Q:Value→Shared→Prop) (E:Value→Shared→Prop),Q (.int (g i) s.toks) { s with toks:=s.toks+1 }→wpAny (model X.prog X.w) X.A (f (.int i t)) Q E s):
  UnR X f (rU fun i=>.int (g i)):=by
 intro pins s σ H x v Q I rx h
 obtain⟨i,rfl,q⟩:=h
 obtain⟨t,rfl⟩:=rx
 exact rule i t s _ _ ⟨.int (g i),H,I.tok _,⟨_,rfl⟩,q⟩
theorem ZjN:UnR X (unaryOp .USub) (rU fun i=>.int (-i)):=unI fun _ _ _ _ _ q=>neg_int q
end
def scal:V→V→Bool
 | .non,.non=>true | .non,.int _=>true | .int _,.non=>true | .non,.bl _=>true | .bl _,.non=>true | .non,.str _=>true | .str _,.non=>true
 | .int _,.int _=>true | .bl _,.bl _=>true | .str _,.str _=>true | .byt _,.byt _=>true
 | .int _,.str _=>true | .str _,.int _=>true | .bl _,.str _=>true | .str _,.bl _=>true
 | _,_=>false
def rEq:R2:=fun x y H Q=>scal x y=true∧Q (.bl (decide (x=y))) H
def rNe:R2:=fun x y H Q=>scal x y=true∧Q (.bl (!decide (x=y))) H
theorem Zhf {i j:Int}:decide (V.int i=V.int j)=(i == j):=by
 rw[Bool.eq_iff_iff]
 simp
theorem ZiH {i j:Bool}:decide (V.bl i=V.bl j)=(i == j):=by
 rw[Bool.eq_iff_iff]
 simp
theorem Zhe {i j:Str}:decide (V.str i=V.str j)=(i == j):=by
 rw[Bool.eq_iff_iff]
 simp
theorem Zhg {i j:Array UInt8}:decide (V.byt i=V.byt j)=(i.toList == j.toList):=by
 rw[Bool.eq_iff_iff]
 cases i
 cases j
 simp
section
variable {X:Cx}{a b c:Expr}{ta tb tc:TE}{pos:Pos}
theorem Zaz {pins:List (Addr×Obj)}{σ:St}{H:Hp}{s:Shared}{Q:VK}{k k':Bool}(I:Inv X pins σ H s)(q:Q (.bl k) H)(e:k=k'):EP X pins σ Q (.bool k') s:=by
 subst e
 exact⟨.bl k,H,I,rfl,q⟩
theorem Zmr:OpR X (compareOp .Eq) rEq:=by
 intro pins s σ H x y v u Q I rx ry h
 obtain⟨hs,q⟩:=h
 cases x with
 | non=>
  cases rx
  cases y with
  | non=>cases ry;exact PySem.EqNone.eq_none_none (Zaz I q (by simp))
  | bl j=>cases ry;exact PySem.EqNone.eq_none_bool (Zaz I q (by simp))
  | int j=>obtain⟨t',rfl⟩:=ry;exact PySem.EqNone.eq_none_int (Zaz I q (by simp))
  | str j=>obtain⟨t',rfl⟩:=ry;exact PySem.EqNone.eq_none_str (Zaz I q (by simp))
  | _=>exact absurd (show false=true from hs) Bool.false_ne_true
 | bl i=>
  cases rx
  cases y with
  | non=>cases ry;exact PySem.EqNone.eq_bool_none (Zaz I q (by simp))
  | bl j=>cases ry;exact eq_bool (Zaz I q ZiH)
  | str j=>obtain⟨t',rfl⟩:=ry;exact PySem.EqMixed.eq_bool_str (Zaz I q (by simp))
  | _=>exact absurd (show false=true from hs) Bool.false_ne_true
 | int i=>
  obtain⟨t,rfl⟩:=rx
  cases y with
  | non=>cases ry;exact PySem.EqNone.eq_int_none (Zaz I q (by simp))
  | int j=>obtain⟨t',rfl⟩:=ry;exact eq_int (Zaz I q Zhf)
  | str j=>obtain⟨t',rfl⟩:=ry;exact PySem.EqMixed.eq_int_str (Zaz I q (by simp))
  | _=>exact absurd (show false=true from hs) Bool.false_ne_true
 | str i=>
  obtain⟨t,rfl⟩:=rx
  cases y with
  | non=>cases ry;exact PySem.EqNone.eq_str_none (Zaz I q (by simp))
  | bl j=>cases ry;exact PySem.EqMixed.eq_str_bool (Zaz I q (by simp))
  | int j=>obtain⟨t',rfl⟩:=ry;exact PySem.EqMixed.eq_str_int (Zaz I q (by simp))
  | str j=>obtain⟨t',rfl⟩:=ry;exact eq_str (Zaz I q Zhe)
  | _=>exact absurd (show false=true from hs) Bool.false_ne_true
 | byt i=>
  obtain⟨t,rfl⟩:=rx
  cases y with
  | byt j=>obtain⟨t',rfl⟩:=ry;exact PySem.W.eq_bytes (Zaz I q Zhg)
  | _=>exact absurd (show false=true from hs) Bool.false_ne_true
 | _=>cases y<;>exact absurd (show false=true from hs) Bool.false_ne_true
theorem Zmp:OpR X (compareOp .NotEq) rNe:=by
 intro pins s σ H x y v u Q I rx ry h
 obtain⟨hs,q⟩:=h
 cases x with
 | non=>
  cases rx
  cases y with
  | non=>cases ry;exact PySem.EqNone.ne_none_none (Zaz I q (by simp))
  | bl j=>cases ry;exact PySem.EqNone.ne_none_bool (Zaz I q (by simp))
  | int j=>obtain⟨t',rfl⟩:=ry;exact PySem.EqNone.ne_none_int (Zaz I q (by simp))
  | str j=>obtain⟨t',rfl⟩:=ry;exact PySem.EqNone.ne_none_str (Zaz I q (by simp))
  | _=>exact absurd (show false=true from hs) Bool.false_ne_true
 | bl i=>
  cases rx
  cases y with
  | non=>cases ry;exact PySem.EqNone.ne_bool_none (Zaz I q (by simp))
  | bl j=>cases ry;exact ne_bool (Zaz I q (congrArg not ZiH))
  | str j=>obtain⟨t',rfl⟩:=ry;exact PySem.EqMixed.ne_bool_str (Zaz I q (by simp))
  | _=>exact absurd (show false=true from hs) Bool.false_ne_true
 | int i=>
  obtain⟨t,rfl⟩:=rx
  cases y with
  | non=>cases ry;exact PySem.EqNone.ne_int_none (Zaz I q (by simp))
  | int j=>obtain⟨t',rfl⟩:=ry;exact ne_int (Zaz I q (congrArg not Zhf))
  | str j=>obtain⟨t',rfl⟩:=ry;exact PySem.EqMixed.ne_int_str (Zaz I q (by simp))
  | _=>exact absurd (show false=true from hs) Bool.false_ne_true
 | str i=>
  obtain⟨t,rfl⟩:=rx
  cases y with
  | non=>cases ry;exact PySem.EqNone.ne_str_none (Zaz I q (by simp))
  | bl j=>cases ry;exact PySem.EqMixed.ne_str_bool (Zaz I q (by simp))
  | int j=>obtain⟨t',rfl⟩:=ry;exact PySem.EqMixed.ne_str_int (Zaz I q (by simp))
  | str j=>obtain⟨t',rfl⟩:=ry;exact ne_str (Zaz I q (congrArg not Zhe))
  | _=>exact absurd (show false=true from hs) Bool.false_ne_true
 | byt i=>
  obtain⟨t,rfl⟩:=rx
  cases y with
  | byt j=>obtain⟨t',rfl⟩:=ry;exact PySem.W.ne_bytes (Zaz I q (congrArg not Zhg))
  | _=>exact absurd (show false=true from hs) Bool.false_ne_true
 | _=>cases y<;>exact absurd (show false=true from hs) Bool.false_ne_true
theorem ZhR:OpR X (compareOp .Lt) (rI0 fun i j=>.bl (decide (i<j))):=opB0 fun _ _ _ _ _ _ _ q=>lt_int q
theorem Zje:OpR X (compareOp .LtE) (rI0 fun i j=>.bl (decide (i≤j))):=opB0 fun _ _ _ _ _ _ _ q=>le_int q
theorem ZgF:OpR X (compareOp .Gt) (rI0 fun i j=>.bl (decide (j<i))):=opB0 fun _ _ _ _ _ _ _ q=>gt_int q
theorem Zmq:OpR X (compareOp .GtE) (rI0 fun i j=>.bl (decide (j≤i))):=opB0 fun _ _ _ _ _ _ _ q=>ge_int q
theorem ZgE:OpR X (compareOp .In) (fun x y H Q=>∃i j,x=.str i∧y=.str j∧Q (.bl (!(Builtin.Str.occurrences j i 0 j.length 1).isEmpty)) H):=by
 intro pins s σ H x y v u Q I rx ry h
 obtain⟨i,j,rfl,rfl,q⟩:=h
 obtain⟨t,rfl⟩:=rx
 obtain⟨t',rfl⟩:=ry
 exact in_str (Zaz I q rfl)
theorem Zko:OpR X (compareOp .Is) (fun x y H Q=>y=.non∧Q (.bl (decide (x=.non))) H):=by
 intro pins s σ H x y v u Q I rx ry h
 obtain⟨rfl,q⟩:=h
 cases ry
 refine is_none_gen (Zaz I q ?_)
 cases x<;>first
  | (cases rx;rfl)
  | (obtain⟨t,rfl⟩:=rx;rfl)
theorem Zay (b:Expr){op:CmpOp}(h:op≠.In:=by decide)(h2:op≠.NotIn:=by decide):behindInMarks op b=false:=by
 have e1:(op == CmpOp.In)=false:=by cases op<;>first | rfl | exact absurd rfl h
 have e2:(op == CmpOp.NotIn)=false:=by cases op<;>first | rfl | exact absurd rfl h2
 cases b<;>simp[behindInMarks,e1,e2]
theorem Zbm {op:CmpOp}{r:R2}(ho:OpR X (compareOp op) r)(ha:PE X a ta)(hb:PE X b tb)(hm:behindInMarks op b=false):PE X (.Compare a [op] [b] pos) (tOp r ta tb):=by
 intro pins s σ H Q I h
 exact wpAny_Compare1 (binT ha hb I h fun v u s2 x y H2 I2 rx ry q=>ho pins s2 σ H2 x y v u Q I2 rx ry q) hm
def ZjT (t:TE):TT:=fun σ H Q=>t σ H fun x H'=>∃k,x=.bl k∧Q k H'
theorem Zaw {op:CmpOp}{r:R2}(ho:OpR X (compareOp op) r)(ha:PE X a ta)(hb:PE X b tb)(hm:behindInMarks op b=false):PT X (.Compare a [op] [b] pos) (ZjT (tOp r ta tb)):=by
 intro pins s σ H Q I h
 refine wpAny_isTrue_Compare1 (thn (ha pins s σ H _ I h) fun v s1 ⟨x,H1,I1,r1,q1⟩=>thn (hb pins s1 σ H1 _ I1 q1) fun u s2 ⟨y,H2,I2,r2,q2⟩=>
  thn (ho pins s2 σ H2 x y v u _ I2 r1 r2 q2) fun c s3 ⟨z,H3,I3,r3,k,e,q3⟩=>?_) hm
 subst e
 cases r3
 exact wpAny_truthy_bool ⟨H3,I3,q3⟩
def Zj4 (r r':R2)(ta tb tc:TE):TE:=fun σ H Q=>ta σ H fun x H1=>tb σ H1 fun y H2=>r x y H2 fun z H3=>∃k,z=.bl k ∧
 (if k=true then tc σ H3 fun w' H4=>r' y w' H4 Q else Q (.bl false) H3)
def TruV (K:PySem.W.Frag)(x:V)(H:Hp)(k:Bool):Prop:=
 match x with
 | .non=>k=false
 | .bl b=>k=b
 | .int i=>k=(i != 0)
 | .str y=>y.length≤sizeLine∧k=((y.length:Int) != 0)
 | .byt y=>y.size≤sizeLine∧k=((y.size:Int) != 0)
 | .ref p=>(∃xs,SqL K H p xs∧k=!xs.isEmpty)∨(∃xs,SqT K H p xs∧k=!xs.isEmpty)∨∃kvs,H p=some (.dK kvs)∧k=!kvs.isEmpty
 | _=>False
theorem ZfX {κ:Type}{kvs:List (κ×V)}{vs:List (κ×Value)}(r:KV kvs vs):(!vs.isEmpty)=!kvs.isEmpty:=by
 cases r<;>rfl
theorem Zc6 {xs:List V}{its:List Value}(r:Vals xs its):(!its.toArray.isEmpty)=!xs.isEmpty:=by
 cases r<;>simp
theorem Zd3:(sizeLine:Nat)<2 ^ 63:=by rw[sizeLine_eq];decide
theorem ZmO:TruR X (fun x H Q=>∃k,TruV X.K x H k∧Q k H):=by
 intro pins s σ H x v Q I rx h
 obtain⟨k,e,q⟩:=h
 have hl:=Zd3
 have hs:sizeLine=16777216:=sizeLine_eq
 cases x with
 | non=>
  cases rx
  have e':k=false:=e
  subst e'
  exact truthy_none ⟨H,I,q⟩
 | bl b=>
  cases rx
  have e':k=b:=e
  subst e'
  exact wpAny_truthy_bool ⟨H,I,q⟩
 | int i=>
  obtain⟨t,rfl⟩:=rx
  have e':k=(i != 0):=e
  subst e'
  exact PySem.P.truthy_int ⟨H,I,q⟩
 | str y=>
  obtain⟨t,rfl⟩:=rx
  obtain⟨hy,e'⟩:y.length≤sizeLine∧k=((y.length:Int) != 0):=e
  subst e'
  exact PySem.P.truthy_str (by omega) ⟨H,I.tok _,q⟩
 | byt y=>
  obtain⟨t,rfl⟩:=rx
  obtain⟨hy,e'⟩:y.size≤sizeLine∧k=((y.size:Int) != 0):=e
  subst e'
  exact PySem.W.truthy_bytes (by omega) ⟨H,I.tok _,q⟩
 | ref p=>
  cases rx
  have e':(∃xs,SqL X.K H p xs∧k=!xs.isEmpty)∨(∃xs,SqT X.K H p xs∧k=!xs.isEmpty)∨∃kvs,H p=some (.dK kvs)∧k=!kvs.isEmpty:=e
  rcases e' with⟨xs,hx,e'⟩|⟨xs,hx,e'⟩|⟨kvs,hx,e'⟩
  ·subst e'
   obtain⟨its,r,pl,hz⟩:=I.list hx
   have hlen:=r.length
   exact wpAny_truthy_list pl.isList (by simp only[List.size_toArray];omega) ⟨H,I.tok _,by rw[Zc6 r];exact q⟩
  ·subst e'
   obtain⟨its,r,pl,hz⟩:=I.tuple hx
   have hlen:=r.length
   exact truthy_tuple pl (by simp only[List.size_toArray];omega) ⟨H,I.tok _,by rw[Zc6 r];exact q⟩
  ·subst e'
   obtain⟨hz,hS,vs,r,m⟩:kvs.length≤sizeLine∧(p == sysModules)=false∧∃vs,KV kvs vs∧s.heap.DictOf (Zap X.prog X.w) p vs:=I.hok p _ hx
   have hlen:kvs.length=vs.length:=Paired.length r
   exact wpAny_truthy_dict hS m (by omega) ⟨H,I.tok _,by rw[ZfX r];exact q⟩
 | _=>exact(show False from e).elim
theorem ZfO:OpR X (binaryOp .Add) (fun x y H Q=>∃i j,x=.str i∧y=.str j∧i.length+j.length≤sizeLine∧Q (.str (i++j)) H):=by
 intro pins s σ H x y v u Q I rx ry h
 obtain⟨i,j,rfl,rfl,hz,q⟩:=h
 obtain⟨t,rfl⟩:=rx
 obtain⟨t',rfl⟩:=ry
 exact add_str (fun t' tk=>⟨.str (i++j),H,I.tok _,⟨_,rfl⟩,q⟩) hz
theorem vals1 {x:V}{us:List Value}(r:Vals [x] us):∃u,us=[u]∧RelV x u:=by
 cases r with
 | cons r1 r2=>cases r2;exact⟨_,rfl,r1⟩
def LenV (K:PySem.W.Frag)(x:V)(H:Hp)(n:Nat):Prop:=
 match x with
 | .str y=>y.length≤sizeLine∧n=y.length
 | .byt y=>y.size≤sizeLine∧n=y.size
 | .ref p=>(∃xs,SqL K H p xs∧n=xs.length)∨∃xs,SqT K H p xs∧n=xs.length
 | _=>False
theorem Zik:Zb5 X (.builtin "len") (fun xs H Q=>∃x n,xs=[x]∧LenV X.K x H n∧Q (.int n) H):=by
 intro pins s σ H xs us Q I r h
 obtain⟨x,n,rfl,e,q⟩:=h
 obtain⟨u,rfl,rx⟩:=vals1 r
 have hl:=Zd3
 have hs:sizeLine=16777216:=sizeLine_eq
 cases x with
 | str y=>
  obtain⟨t,rfl⟩:=rx
  obtain⟨hy,e'⟩:y.length≤sizeLine∧n=y.length:=e
  subst e'
  exact len_str (by omega) ⟨.int _,H,I.tok _,⟨_,rfl⟩,q⟩
 | byt y=>
  obtain⟨t,rfl⟩:=rx
  obtain⟨hy,e'⟩:y.size≤sizeLine∧n=y.size:=e
  subst e'
  exact PySem.W.len_bytes (by omega) ⟨.int _,H,I.tok _,⟨_,rfl⟩,q⟩
 | ref p=>
  cases rx
  have e':(∃xs,SqL X.K H p xs∧n=xs.length)∨∃xs,SqT X.K H p xs∧n=xs.length:=e
  rcases e' with⟨xs,hx,e'⟩|⟨xs,hx,e'⟩
  ·subst e'
   obtain⟨its,r',pl,hz⟩:=I.list hx
   have hlen:=r'.length
   exact Calls.call_len_list pl.isList (by simp only[List.size_toArray];omega) ⟨.int xs.length,H,I.tok _,⟨_,by simp only[List.size_toArray];rw[hlen]⟩,q⟩
  ·subst e'
   obtain⟨its,r',pl,hz⟩:=I.tuple hx
   have hlen:=r'.length
   exact len_tuple pl (by simp only[List.size_toArray];omega) ⟨.int xs.length,H,I.tok _,⟨_,by simp only[List.size_toArray];rw[hlen]⟩,q⟩
 | _=>exact(show False from e).elim
end
structure ObjM (h:Heap)(x dx C:Addr)(mA:Str→Option Value):Prop where
 obj:h.get? x=some (PySem.W.instObj C dx)
 ns:h.Ns1 dx mA
 ne:dx≠x
theorem Zcv {h:Heap}{dx:Addr}{mA:Str→Option Value}(n:h.Ns1 dx mA):∃od,h.get? dx=some od∧∀name,PySem.W.lookIn name od=some (mA name):=by
 obtain⟨o,es,ep,ho,hd,hk,_,hm⟩:=n
 refine⟨o,ho,fun name=>?_⟩
 have e:=hm name
 unfold nsFind findBy at e
 rw[←Array.find?_toList]at e
 unfold PySem.W.lookIn
 rw[hd]
 dsimp only
 split
 ·rename_i y q
  rw[q]at e
  exact congrArg some e
 ·rename_i q
  rw[q]at e
  have a:es.toList.any (·.refKey)=false:=by
   rw[List.any_eq_false]
   intro y hy
   obtain⟨z,t,hkey⟩:=hk y (Array.mem_toList_iff.mp hy)
   simp[DictEntry.refKey,hkey]
  have a':¬es.toList.any (·.refKey)=true:=by rw[a];exact Bool.false_ne_true
  rw[if_neg a']
  exact congrArg some e
theorem ObjM.look {h:Heap}{x dx C:Addr}{mA:Str→Option Value}(I:ObjM h x dx C mA):∃od,PySem.W.InstAt h x (PySem.W.instObj C dx) C (some od)∧∀name,PySem.W.lookIn name od=some (mA name):=
 let ⟨od,ho,hl⟩:=Zcv I.ns
 ⟨od,⟨I.obj,rfl,rfl,ho⟩,hl⟩
section
variable {prog:Program}{w:World}{A:Around}{E:Value→Shared→Prop}{s:Shared}{K:PySem.W.Frag}{x dx C f:Addr}{mA:Str→Option Value}{name:Str}{v:Value}
theorem Zjt {expr:Bool}{Q:Value→Shared→Prop}(X:K.In s.heap)(I:ObjM s.heap x dx C mA)(hg:PySem.W.plainGet K C name=true)(hh:PySem.W.hasDictIn K C=true)
  (ha:PySem.W.findIn K (.ref C) name=some none) (hv:mA name=some v) (hv':PySem.W.handedIn v=true) (h:Q v { s with toks:=s.toks+1 }):
  wpAny (model prog w) A (getAttr (.ref x) name expr) Q E s:=by
 obtain⟨od,J,hl⟩:=I.look
 exact PySem.W.get_value X J (PySem.W.plainGet_of hg).1 (PySem.W.findObj_own hh ha rfl (by rw[hl,hv])) hv' h
theorem Zh9 {pl:Sem Bool}{Q:Value×List Value→Shared→Prop}(X:K.In s.heap)(I:ObjM s.heap x dx C mA)(hg:PySem.W.plainGet K C name=true)
  (hf:PySem.W.findIn K (.ref C) name=some (some (.ref f))) (ht:PySem.W.isFn K (.ref f)=true) (hv:mA name=none) (h:Q (.ref f,[.ref x]) s):
  wpAny (model prog w) A (getMethod (.ref x) name pl) Q E s:=by
 obtain⟨od,J,hl⟩:=I.look
 exact PySem.W.method_fn X J (PySem.W.plainGet_of hg).1 (PySem.W.plainGet_of hg).2 hf (beq_iff_eq.mp ht) (by show (PySem.W.lookIn name od).map (·.isSome)=some false;rw[hl,hv];rfl) h
theorem ZiY {ns:List Str}{Q:Unit→Shared→Prop}(X:K.In s.heap)(I:ObjM s.heap x dx C mA)
  (hs:PySem.W.findIn K (.ref C) "__setattr__"=some (some (.builtin "object.__setattr__"))) (hp:PySem.W.plainOver K C=true) (ht:PySem.W.takerIn K C name=some none) (hh:PySem.W.hasDictIn K C=true)
  (hw:PySem.Within mA ns) (hsz:ns.length≤sizeLine)
  (h:∀h',ObjM h' x dx C (fun y=>if y=name then some v else mA y)→Heap.SameBut dx s.heap h'→Q () { s with heap:=h',toks:=s.toks+2 }):
  wpAny (model prog w) A (setAttr (.ref x) name v) Q E s:=by
 obtain⟨od,J,hl⟩:=I.look
 refine PySem.W.set_plain X J hs (PySem.W.osa_open (s:={ s with toks:=s.toks+1 }) (r:=none) X J hp ht fun b=>?_)
 obtain⟨cd,hc,hd'⟩:=PySem.W.any_some hh
 have hx:s.heap.get? x=some ⟨.ref C,some dx,.plain,#[]⟩:=I.obj
 refine wpAny_bind (wpAny_pure (wpAny_bind (wpAny_bind (wpAny_loadPart hx (wpAny_bind (PySem.W.Looks.here (s:={ s with toks:=s.toks+1 }) (PySem.W.looks_clsIn X hc) ?_))))))
 rw[hd']
 refine wpAny_pure (a:=some dx) (wpAny_bind (wpAny_pure (wpAny_bind ?_)))
 refine wpAny_nsSet1 (s:={ s with toks:=s.toks+1 }) I.ns fun h' hn2 hs2=>?_
 obtain⟨oD,esD,epD,hoD,hdD,hcD⟩:=hn2.count (PySem.Within.cons name v hw)
 refine wpAny_bind (wpAny_lookBehind hoD (by rw[hdD];exact pastItsLine_dict (Nat.le_trans hcD (by rw[List.length_cons];omega))) ?_)
 exact wpAny_pure (h _ ⟨(hs2.2 _ (Ne.symm I.ne)).trans I.obj,hn2,I.ne⟩ hs2)
theorem ZhX {R:Result→Shared→Prop}{vs:List Value}{kw:List (Str×Value)}(X:K.In s.heap)(hm:PySem.W.makesIn K C=true)
  (hi:PySem.W.findIn K (.ref C) "__init__"=some (some (.ref f))) (hf:PySem.W.typeIn K (.ref f)=some (.type "function"))
  (h:codeAny (model prog w) (A.under (.builtin "type.__call__" ⟨.ref C::vs,kw⟩)) (.call (.ref f) ⟨.ref (s.heap.objs.size+1)::vs,kw⟩) (PySem.W.InitBack (s.heap.objs.size+1) R)
   { s with heap:=(s.heap.push PySem.W.emptyDict).push (PySem.W.instObj C s.heap.objs.size) }):
  codeAny (model prog w) A (.call (.ref C) ⟨vs,kw⟩) R s:=by
 obtain⟨hh,g,d,t,os⟩:=s
 exact PySem.W.make_core (PySem.W.makes_of X hm) (PySem.W.looks_findIn X hi) (fun self=>PySem.W.bind_fn X self hf) (.inl rfl) h
end
def putF (f:Str)(v:V):List (Str×V)→List (Str×V)
 | []=>[(f,v)]
 | (g,x)::r=>if g=f then (g,v)::r else (g,x)::putF f v r
theorem ZaJ (f g:Str)(v:V):∀fs:List (Str×V),(putF f v fs).lookup g=if g=f then some v else fs.lookup g
 | []=>by
  show List.lookup g [(f,v)]=_
  by_cases h:g=f
  ·have hb:(g == f)=true:=beq_iff_eq.mpr h
   simp only[List.lookup,hb,if_pos h]
  ·have hb:(g == f)=false:=beq_eq_false_iff_ne.mpr h
   simp only[List.lookup,hb,if_neg h]
 | (k,x)::r=>by
  have ih:=ZaJ f g v r
  rw[show putF f v ((k,x)::r)=(if k=f then (k,v)::r else (k,x)::putF f v r) from rfl]
  by_cases hk:k=f
  ·rw[if_pos hk]
   by_cases h:g=k
   ·have hb:(g == k)=true:=beq_iff_eq.mpr h
    simp only[List.lookup,hb,if_pos (h.trans hk)]
   ·have hb:(g == k)=false:=beq_eq_false_iff_ne.mpr h
    simp only[List.lookup,hb,if_neg (fun e:g=f=>h (e.trans hk.symm))]
  ·rw[if_neg hk]
   by_cases h:g=k
   ·have hb:(g == k)=true:=beq_iff_eq.mpr h
    simp only[List.lookup,hb,if_neg (fun e:g=f=>hk (h.symm.trans e))]
   ·have hb:(g == k)=false:=beq_eq_false_iff_ne.mpr h
    simp only[List.lookup,hb]
    exact ih
theorem Zcz (f:Str)(v:V):∀fs:List (Str×V),f∈(putF f v fs).map (·.1)∧∀g,g∈fs.map (·.1)→g∈(putF f v fs).map (·.1)
 | []=>⟨by simp[putF],fun g h=>by simp at h⟩
 | (k,x)::r=>by
  obtain⟨i1,i2⟩:=Zcz f v r
  rw[show putF f v ((k,x)::r)=(if k=f then (k,v)::r else (k,x)::putF f v r) from rfl]
  by_cases hk:k=f
  ·rw[if_pos hk]
   subst hk
   exact⟨by simp,fun g h=>by simpa using h⟩
  ·rw[if_neg hk]
   refine⟨?_,fun g h=>?_⟩
   ·rw[List.map_cons]
    exact List.mem_cons_of_mem _ i1
   ·rw[List.map_cons]at h ⊢
    rcases List.mem_cons.mp h with e | e
    ·exact List.mem_cons.mpr (.inl e)
    ·exact List.mem_cons_of_mem _ (i2 g e)
theorem Zcw (f:Str)(v:V):∀fs:List (Str×V),(putF f v fs).length≤fs.length+1
 | []=>by simp[putF]
 | (k,x)::r=>by
  have ih:=Zcw f v r
  rw[show putF f v ((k,x)::r)=(if k=f then (k,v)::r else (k,x)::putF f v r) from rfl]
  by_cases hk:k=f
  ·rw[if_pos hk,List.length_cons,List.length_cons];omega
  ·rw[if_neg hk,List.length_cons,List.length_cons];omega
theorem RelO.some_of {v:V}{o:Option Value}(r:RelO (some v) o):∃u,o=some u∧RelV v u:=by
 cases o with
 | none=>exact(show False from r).elim
 | some u=>exact⟨u,rfl,r⟩
theorem RelO.none_of {o:Option Value}(r:RelO none o):o=none:=by
 cases o with
 | none=>rfl
 | some u=>exact(show False from r).elim
theorem Zg2 {v:V}{u:Value}(r:RelV v u):PySem.W.handedIn u=true:=by
 cases v with
 | non=>cases (show u=Value.none from r);rfl
 | bl b=>cases (show u=Value.bool b from r);rfl
 | int i=>obtain⟨t,e⟩:=(show ∃t,u=Value.int i t from r);cases e;rfl
 | str x=>obtain⟨t,e⟩:=(show ∃t,u=Value.str x t from r);cases e;rfl
 | byt b=>obtain⟨t,e⟩:=(show ∃t,u=Value.bytes b t from r);cases e;rfl
 | flt b=>obtain⟨t,e⟩:=(show ∃t,u=Value.float b t from r);cases e;rfl
 | ref a=>cases (show u=Value.ref a from r);rfl
 | ty n=>cases (show u=Value.type n from r);rfl
section
variable {P:Program}{w:World}{H H':Hp}{h h':Heap}{a C dx:Addr}{fs fs':List (Str×V)}
theorem Zdv (hok:HOk P w H h)(e:H a=some (.ins C dx fs)):∃mA,ObjM h a dx C mA∧(∀f,RelO (fs.lookup f) (mA f))∧PySem.Within mA (fs.map (·.1))∧fs.length≤1000∧H dx=some (.own a):=by
 obtain⟨d,z,ne,ob,mA,n,r,q⟩:=(show ObjOk P w H h a (.ins C dx fs) from hok a _ e)
 exact⟨mA,⟨ob,n,ne⟩,r,q,z,d⟩
end
structure Cls (K:PySem.W.Frag)(C:Addr):Prop where
 pg:PySem.W.plainGet K C Str.empty=true
 hd:PySem.W.hasDictIn K C=true
 po:PySem.W.plainOver K C=true
 sa:PySem.W.findIn K (.ref C) "__setattr__"=some (some (.builtin "object.__setattr__"))
theorem Cls.get {K:PySem.W.Frag}{C:Addr}(c:Cls K C)(f:Str):PySem.W.plainGet K C f=true:=c.pg
def NoAttr (K:PySem.W.Frag)(C:Addr)(f:Str):Prop:=PySem.W.findIn K (.ref C) f=some none
theorem NoAttr.taker {K:PySem.W.Frag}{C:Addr}{f:Str}(n:NoAttr K C f):PySem.W.takerIn K C f=some none:=by
 unfold PySem.W.takerIn
 rw[show PySem.W.findIn K (.ref C) f=some none from n]
 rfl
structure Meth (K:PySem.W.Frag)(C:Addr)(m:Str)(f:Addr):Prop where
 at_:PySem.W.findIn K (.ref C) m=some (some (.ref f))
 fn:PySem.W.isFn K (.ref f)=true
 kp:PySem.W.keepIn K (.ref f)=true
section
variable {X:Cx}{pins:List (Addr×Obj)}{σ:St}{H:Hp}{s:Shared}{a C dx:Addr}{fs:List (Str×V)}{f:Str}{v:V}{A:Around}{E:Value→Shared→Prop}
theorem ZfY {b:Bool}{Q:Value→Shared→Prop}(I:Inv X pins σ H s)(e:H a=some (.ins C dx fs))(c:Cls X.K C)(n:NoAttr X.K C f)(l:fs.lookup f=some v)
  (h:∀u s',Inv X pins σ H s'→RelV v u→Q u s'):wpAny (model X.prog X.w) A (getAttr (.ref a) f b) Q E s:=by
 obtain⟨mA,O,r,_,_,_⟩:=Zdv I.hok e
 obtain⟨u,hu,ru⟩:=RelO.some_of (v:=v) (o:=mA f) (by rw[←l];exact r f)
 exact Zjt I.kIn O (c.get f) c.hd n hu (Zg2 ru) (h u _ (I.tok _) ru)
theorem Zb0 {m:Str}{g:Addr}{pl:Sem Bool}{Q:Value×List Value→Shared→Prop}(I:Inv X pins σ H s)(e:H a=some (.ins C dx fs))(c:Cls X.K C)(k:Meth X.K C m g)(l:fs.lookup m=none)
  (h:Q (.ref g,[.ref a]) s):wpAny (model X.prog X.w) A (getMethod (.ref a) m pl) Q E s:=by
 obtain⟨mA,O,r,_,_,_⟩:=Zdv I.hok e
 have hn:mA m=none:=RelO.none_of (by rw[←l];exact r m)
 exact Zh9 I.kIn O (c.get m) k.at_ k.fn hn h
theorem ZfJ {y:V}{u:Value}{Q:Unit→Shared→Prop}(I:Inv X pins σ H s)(e:H a=some (.ins C dx fs))(c:Cls X.K C)(n:NoAttr X.K C f)(hl:fs.length<1000)(ry:RelV y u)
  (h:∀s',Inv X pins σ (upd H a (.ins C dx (putF f y fs))) s'→Q () s'):wpAny (model X.prog X.w) A (setAttr (.ref a) f u) Q E s:=by
 obtain⟨mA,O,r,wi,_,ho⟩:=Zdv I.hok e
 have hz:(fs.map (·.1)).length≤sizeLine:=by rw[List.length_map,sizeLine_eq];omega
 refine ZiY I.kIn O c.sa c.po n.taker c.hd wi hz fun h' O' sb=>h _ ?_
 have hd:∃o,h'.get? dx=some o:=let ⟨o,_,_,e',_⟩:=O'.ns;⟨o,e'⟩
 refine I.write (x:=a) (e:=dx) (by rw[e];exact True.intro) (.inr ho) (fun b q hb z=>(sb.2 b hb).trans z) hd ?_
 refine⟨by rw[Zac O.ne];exact ho,?_,O.ne,O'.obj,_,O'.ns,fun g=>?_,fun g hg=>?_⟩
 ·have:=Zcw f y fs;omega
 ·show RelO ((putF f y fs).lookup g) (if g=f then some u else mA g)
  rw[ZaJ]
  by_cases q:g=f
  ·rw[if_pos q,if_pos q];exact ry
  ·rw[if_neg q,if_neg q];exact r g
 ·by_cases q:g=f
  ·rw[q];exact(Zcz f y fs).1
  ·refine(Zcz f y fs).2 g (wi g fun z=>hg ?_)
   show (if g=f then some u else mA g)=none
   rw[if_neg q];exact z
theorem Inv.made (I:Inv X pins σ H s):Inv X pins σ (upd (upd H s.heap.objs.size (.own (s.heap.objs.size+1))) (s.heap.objs.size+1) (.ins C s.heap.objs.size []))
  { s with heap:=(s.heap.push PySem.W.emptyDict).push (PySem.W.instObj C s.heap.objs.size) }:=by
 have e1:(s.heap.push PySem.W.emptyDict).get? s.heap.objs.size=some PySem.W.emptyDict:=Heap.get?_push_size s.heap rfl
 have e2:((s.heap.push PySem.W.emptyDict).push (PySem.W.instObj C s.heap.objs.size)).get? (s.heap.objs.size+1)=some (PySem.W.instObj C s.heap.objs.size):=by
  have:=Heap.get?_push_size (s.heap.push PySem.W.emptyDict) (o:=PySem.W.instObj C s.heap.objs.size) rfl
  rwa [Heap.size_push]at this
 have e3:(s.heap.push PySem.W.emptyDict).Ns s.heap.objs.size (fun _=>none):=⟨PySem.W.emptyDict,#[],_,e1,rfl,(fun e he=>absurd he (by simp)),fun _=>rfl⟩
 have I1:=I.laid (a:=s.heap.objs.size) (o:=.own (s.heap.objs.size+1)) (h':=s.heap.push PySem.W.emptyDict) (t':=s.toks) (fun b u q=>Heap.get?_push_of_some _ q) (Nat.le_refl _) ⟨_,e1⟩
 refine I1.laid (a:=s.heap.objs.size+1) (o:=.ins C s.heap.objs.size []) (t':=s.toks) (fun b u q=>Heap.get?_push_of_some _ q) (Nat.le_of_eq (Heap.size_push _ _)) ?_
 have ne:s.heap.objs.size≠s.heap.objs.size+1:=Nat.ne_of_lt (Nat.lt_succ_self _)
 refine⟨by rw[Zac ne,Zaf],Nat.zero_le _,ne,e2,fun _=>none,(Heap.Ns1.of_empty e3).at fun o q=>Heap.get?_push_of_some _ q,fun _=>True.intro,fun y hy=>absurd rfl hy⟩
theorem ZjH {prog:Program}{w:World}{env:Env}{e:Expr}{f:Str}{pos:Pos}{s:Shared}{Q:Value→Shared→Prop}(hb:attributeBase e f env (eval e env)=eval e env)
  (h:wpAny (model prog w) A (eval e env) (fun o s₁=>wpAny (model prog w) A (getAttr o f true) Q E s₁) E s):wpAny (model prog w) A (eval (.Attribute e f pos) env) Q E s:=
 Attribute_any_ h (by rw[arm_eval_Attribute,hb])
end
def tFld (K:PySem.W.Frag)(ta:TE)(f:Str):TE:=fun σ H Q=>ta σ H fun x H1=>∃a C dx fs v,x=.ref a∧H1 a=some (.ins C dx fs)∧Cls K C∧NoAttr K C f∧fs.lookup f=some v∧Q v H1
def sFld (K:PySem.W.Frag)(ta tv:TE)(f:Str):TS:=fun D σ H=>tv σ H fun y H1=>ta σ H1 fun x H2=>∃a C dx fs,x=.ref a∧H2 a=some (.ins C dx fs)∧Cls K C∧NoAttr K C f∧fs.length<1000 ∧
 D.nx σ (upd H2 a (.ins C dx (putF f y fs)))
section
variable {X:Cx}{o e value:Expr}{f:Str}{pos pos' tpos:Pos}{ta tv:TE}
theorem Zkl (he:PE X e ta)(hb:attributeBase e f X.env (eval e X.env)=eval e X.env):PE X (.Attribute e f pos) (tFld X.K ta f):=by
 intro pins s σ H Q I h
 refine ZjH hb (thn (he pins s σ H _ I h) fun u s1 ⟨x,H1,I1,rx,a,C,dx,fs,v,ex,ea,c,n,l,q⟩=>?_)
 subst ex
 obtain rfl:u=Value.ref a:=rx
 exact ZfY I1 ea c n l fun u' s2 I2 ru=>⟨v,H1,I2,ru,q⟩
theorem Zit (ha:PE X o ta)(hv:PE X value tv)(hs:swapsWith value (some (.Attribute o f pos')) pos.line X.env=pure false):PS X (.Assign [.Attribute o f pos'] value pos) (sFld X.K ta tv f):=by
 intro pins s σ H D I h
 refine plainObj_wpAny_Assign_Attribute (thn (hv pins s σ H _ I h) fun u s1 ⟨y,H1,I1,ry,q⟩=>thn (ha pins s1 σ H1 _ I1 q) fun ov s2 ⟨x,H2,I2,rx,a,C,dx,fs,ex,ea,c,n,l,q2⟩=>?_) hs
 subst ex
 obtain rfl:ov=Value.ref a:=rx
 exact ZfJ I2 ea c n l ry fun s3 I3=>⟨σ,_,I3,q2⟩
theorem Zji {pl:Sem Bool}{m:Str}{apos:Pos}{args:List Expr}{pins:List (Addr×Obj)}{s:Shared}{σ:St}{H:Hp}{Q:Value→Shared→Prop}{te:TE}(he:PE X e te)(I:Inv X pins σ H s)
  (h:te σ H fun x H1=>∃a C dx fs g,x=.ref a∧H1 a=some (.ins C dx fs)∧Cls X.K C∧Meth X.K C m g∧fs.lookup m=none ∧
   ∀s1,Inv X pins σ H1 s1→wpAny (model X.prog X.w) X.A (callWith pos (.ref g) [.ref a] (backTo pos (starEach args X.env)) (backToKw pos (keywordEach [] X.env))) Q X.xe s1)
  (ht:eval (.Call (.Attribute e m apos) args [] pos) X.env=(do
   let ov ←eval e X.env
   standAt apos.atName
   let (f,first) ←holding [ov] (getMethod ov m pl)
   callWith pos f first (backTo pos (starEach args X.env)) (backToKw pos (keywordEach [] X.env)))):
  wpAny (model X.prog X.w) X.A (eval (.Call (.Attribute e m apos) args [] pos) X.env) Q X.xe s:=by
 refine PySem.W.methodCall_KW (pl:=pl) (thn (he pins s σ H _ I h) fun u s1 ⟨x,H1,I1,rx,a,C,dx,fs,g,ex,ea,c,k,l,q⟩=>?_) ht
 subst ex
 obtain rfl:u=Value.ref a:=rx
 exact Zb0 I1 ea c k l (q s1 I1)
end
section
variable {X:Cx}{pins:List (Addr×Obj)}{σ:St}{H:Hp}{s:Shared}{A:Around}{E:Value→Shared→Prop}{Q:Value→Shared→Prop}{c:Value}{b:Bool}
inductive TyOf (K:PySem.W.Frag) (H:Hp):V→Value→Prop where
 | non:TyOf K H .non (.type "NoneType")
 | bl (x:Bool):TyOf K H (.bl x) (.type "bool")
 | int (i:Int):TyOf K H (.int i) (.type "int")
 | str (x:Str):TyOf K H (.str x) (.type "str")
 | flt (x:UInt64):TyOf K H (.flt x) (.type "float")
 | lst {a:Addr} {xs:List V} (e:H a=some (.lst xs)):TyOf K H (.ref a) (.type "list")
 | frz {a:Addr} {o:Obj} {xs:List V} (e:H a=some (.frz o (.lst xs))):TyOf K H (.ref a) (.type "list")
 | tup {a:Addr} {xs:List V} (e:H a=some (.tup xs)):TyOf K H (.ref a) (.type "tuple")
 | dK {a:Addr} {kvs:List (Key×V)} (e:H a=some (.dK kvs)):TyOf K H (.ref a) (.type "dict")
 | dT {a:Addr} {kvs:List (List Key×V)} (e:H a=some (.dT kvs)):TyOf K H (.ref a) (.type "dict")
 | ins {a C dx:Addr} {fs:List (Str×V)} (e:H a=some (.ins C dx fs)) (cl:Cls K C) (ha:PySem.W.findIn K (.ref C) "__class__"=some (some (.builtin "object.__class__")))
   (hn:PySem.W.specialIn K (.builtin "object.__class__") "__get__"=some (some (.builtin "getset_descriptor.__get__"))) (htk:PySem.W.takesIn K (.builtin "object.__class__")=some true)
   (hm:PySem.W.mroIn K C (.type "object")=some true):TyOf K H (.ref a) (.ref C)
theorem ZgZ {x:V}{u t:Value}(I:Inv X pins σ H s)(rx:RelV x u)(ty:TyOf X.K H x t)(e:PySem.W.kitOne X.K t c=some b)(h:∀tk,Q (.bool b) { s with toks:=tk }):
  wpAny (model X.prog X.w) A (call (.builtin "isinstance") [u,c]) Q E s:=by
 cases ty with
 | non=>cases (show u=Value.none from rx);exact PySem.W.kia_one PySem.W.kitx_none I.kIn True.intro e (fun z=>nomatch z) h
 | bl y=>cases (show u=Value.bool y from rx);exact PySem.W.kia_one PySem.W.kitx_bool I.kIn True.intro e (fun z=>nomatch z) h
 | int i=>obtain⟨t,q⟩:=(show ∃t,u=Value.int i t from rx);cases q;exact PySem.W.kia_one PySem.W.kitx_int I.kIn True.intro e (fun z=>nomatch z) h
 | str y=>obtain⟨t,q⟩:=(show ∃t,u=Value.str y t from rx);cases q;exact PySem.W.kia_one PySem.W.kitx_str I.kIn True.intro e (fun z=>nomatch z) h
 | flt y=>obtain⟨t,q⟩:=(show ∃t,u=Value.float y t from rx);cases q;exact PySem.W.kia_one PySem.W.kitx_float I.kIn True.intro e (fun z=>nomatch z) h
 | @lst a xs ea=>
  cases (show u=Value.ref a from rx)
  obtain⟨_,_,n,_,h1⟩:=(show ObjOk X.prog X.w H s.heap a (.lst xs) from I.hok a _ ea)
  exact PySem.W.kia_one PySem.W.kitx_list I.kIn ⟨_,h1,rfl⟩ e (fun z=>nomatch z) h
 | @frz a ob xs ea=>
  cases (show u=Value.ref a from rx)
  obtain⟨_,_,_,n,_,h1⟩:=(show ObjOk X.prog X.w H s.heap a (.frz ob (.lst xs)) from I.hok a _ ea)
  exact PySem.W.kia_one PySem.W.kitx_list I.kIn ⟨_,h1,rfl⟩ e (fun z=>nomatch z) h
 | @tup a xs ea=>
  cases (show u=Value.ref a from rx)
  obtain⟨_,_,_,p⟩:=(show ObjOk X.prog X.w H s.heap a (.tup xs) from I.hok a _ ea)
  obtain⟨o,h1,h2,_⟩:=p
  exact PySem.W.kia_one PySem.W.kitx_tuple I.kIn ⟨o,h1,h2⟩ e (fun z=>nomatch z) h
 | @dK a kvs ea=>
  cases (show u=Value.ref a from rx)
  obtain⟨_,_,vs,_,p⟩:=(show ObjOk X.prog X.w H s.heap a (.dK kvs) from I.hok a _ ea)
  obtain⟨o,es,ep,h1,h2,_⟩:=p
  exact PySem.W.kia_one PySem.W.kitx_dict I.kIn ⟨o,h1,h2.1⟩ e (fun z=>nomatch z) h
 | @dT a kvs ea=>
  cases (show u=Value.ref a from rx)
  obtain⟨_,_,xs,_,o,es,ep,h1,h2,_⟩:=(show ObjOk X.prog X.w H s.heap a (.dT kvs) from I.hok a _ ea)
  exact PySem.W.kia_one PySem.W.kitx_dict I.kIn ⟨o,h1,h2.1⟩ e (fun z=>nomatch z) h
 | @ins a C dx fs ea cl ha hn htk hm=>
  cases (show u=Value.ref a from rx)
  obtain⟨mA,O,_⟩:=Zdv I.hok ea
  obtain⟨od,J,_⟩:=O.look
  exact PySem.W.kia_one (PySem.W.kitx_own (cl.get _) cl.hd ha hn htk hm) I.kIn J e (fun z=>nomatch z) h
end
structure Room (k:Nat)(A:Around):Prop where
 hd:A.handled=none
 dp:A.depth+3*k+5<recursionLimit
 un:A.units+16*k+200<cLine
theorem Room.mono {j k:Nat}{A:Around}(r:Room k A)(h:j≤k):Room j A:=⟨r.hd,by have:=r.dp;omega,by have:=r.un;omega⟩
theorem Room.deeper {k:Nat}{A:Around}(r:Room (k+1) A)(env:Env):Room k (A.deeper env):=
 ⟨r.hd,by have:=r.dp;show A.depth+1+3*k+5<_;omega,by have:=r.un;show A.units+3+16*k+200<_;omega⟩
theorem ZfU {A:Around}{C:Addr}{us:List Value}{kw:List (Str×Value)}:(A.under (.builtin "type.__call__" ⟨.ref C::us,kw⟩)).depth=A.depth+1:=by
 first | rfl | simp[Around.under,Code.weight,Code.isCreation,Code.isGuard,Code.isCaller,Code.frames,Code.isFrame,guardIds]
theorem ZfT {A:Around}{C:Addr}{us:List Value}{kw:List (Str×Value)}:(A.under (.builtin "type.__call__" ⟨.ref C::us,kw⟩)).units=A.units+1:=by
 first | rfl | simp[Around.under,Code.cUnits,Code.frames,Code.isFrame]
theorem Room.make {k:Nat}{A:Around}(r:Room (k+1) A)(C:Addr)(us:List Value)(kw:List (Str×Value)):Room k (A.under (.builtin "type.__call__" ⟨.ref C::us,kw⟩)):=
 ⟨r.hd,by have:=r.dp;rw[ZfU];omega,by have:=r.un;rw[ZfT];omega⟩
theorem Room.depth {k:Nat}{A:Around}(r:Room k A):A.depth<recursionLimit:=by have:=r.dp;omega
theorem Room.units {k:Nat}{A:Around}(r:Room k A):A.units+64<cLine:=by have:=r.un;omega
def tNil:TA:=fun _ H Q=>Q [] H
def Zj3 (ta:TE)(tr:TA):TA:=fun σ H Q=>ta σ H fun x H1=>tr σ H1 fun xs H2=>Q (x::xs) H2
section
variable {X:Cx}{e:Expr}{es:List Expr}{te:TE}{t:TA}{pos:Pos}
theorem Zae:PA X [] tNil:=fun _ _ _ _ H Q I h=>Calls.spliced_nil ⟨[],H,I,.nil,h⟩
theorem Zaa (ha:PE X e te)(hr:PA X es t)(hs:starEach (e::es) X.env=(false,eval e X.env)::starEach es X.env:=by rfl):PA X (e::es) (Zj3 te t):=by
 intro pos pins s σ H Q I h
 rw[hs]
 show wpAny _ _ (spliced ((false,eval e X.env)::backTo pos (starEach es X.env))) _ _ s
 refine Calls.spliced_cons (thn (ha pins s σ H _ I h) fun u s1 ⟨x,H1,I1,r1,q1⟩=>?_)
 exact thn (hr pos pins s1 σ H1 _ I1 q1) fun us s2 ⟨xs,H2,I2,r2,q2⟩=>⟨x::xs,H2,I2,.cons r1 r2,q2⟩
def tTup (t:TA):TE:=fun σ H Q=>t σ H fun xs H1=>xs.length≤sizeLine∧∀p,H1 p=none→Q (.ref p) (upd H1 p (.tup xs))
def tLst (t:TA):TE:=fun σ H Q=>t σ H fun xs H1=>xs.length≤sizeLine∧∀p,H1 p=none→Q (.ref p) (upd H1 p (.lst xs))
theorem Zkj {x1}(h:PA X es t):PE X (.Tuple es x1 pos) (tTup t):=by
 intro pins s σ H Q I hq
 refine wpAny_Tuple_spliced (thn (h pos pins s σ H _ I hq) fun us s1 ⟨xs,H1,I1,r,z,q⟩=>⟨by rw[←r.length];exact z,?_⟩)
 have hf:H1 s1.heap.objs.size=none:=I1.hok.fresh (Nat.le_refl _)
 refine⟨.ref s1.heap.objs.size,upd H1 s1.heap.objs.size (.tup xs),I1.laid (t':=s1.toks) (fun b u e=>Heap.get?_push_of_some _ e) (Nat.le_refl _) ?_,rfl,q _ hf⟩
 exact⟨z,us,r,⟨_,Heap.get?_push_size _ rfl,rfl,_,rfl⟩⟩
theorem Zc1 (h:PA X es t):PE X (.List es pos) (tLst t):=by
 intro pins s σ H Q I hq
 refine wpAny_List_spliced (thn (h pos pins s σ H _ I hq) fun us s1 ⟨xs,H1,I1,r,z,q⟩=>⟨by rw[←r.length];exact z,?_⟩)
 have hf:H1 s1.heap.objs.size=none:=I1.hok.fresh (Nat.le_refl _)
 refine⟨.ref s1.heap.objs.size,upd H1 s1.heap.objs.size (.lst xs),I1.laid (t':=s1.toks) (fun b u e=>Heap.get?_push_of_some _ e) (Nat.le_refl _) ?_,rfl,q _ hf⟩
 exact⟨z,us,0,r,Heap.get?_push_size _ rfl⟩
end
abbrev Sp:=List V→Hp→VK→XK→Prop
abbrev CXT:=List Env→Hp→Shared→XK→Value→Shared→Prop
structure Env0 (P:Program)(w:World)(K:PySem.W.Frag)(mg:Str→Option Value)(base:Heap)(A:Around)(outer:List Env)(s:Shared)(H:Hp):Prop where
 frames:A.frames=some outer
 mod:Mod K mg base
 bs:∀b o,base.get? b=some o→s.heap.get? b=some o∧H b=none
 bsz:base.objs.size≤s.heap.objs.size
 funs:s.heap.FunFrames base outer
 frf:∀b∈frs outer,H b=none
 hok:HOk P w H s.heap
 bare:AllBare s.gens
def CE (outer:List Env)(P:Program)(w:World)(H:Hp)(s:Shared)(Q:VK)(u:Value)(s':Shared):Prop:=
 ∃v H',s'.os=s.os∧AllBare s'.gens∧Un (frs outer) [] H H' s.heap s'.heap∧HOk P w H' s'.heap∧RelV v u∧Q v H'
def CR (CX:CXT)(outer:List Env)(P:Program)(w:World)(H:Hp)(s:Shared)(Q:VK)(E:XK)(r:Result)(s':Shared):Prop:=
 match r with
 | .ok (.ret u)=>CE outer P w H s Q u s'
 | .ok _=>False
 | .error e=>CX outer H s E e s'
structure FnOk (P:Program)(w:World)(K:PySem.W.Frag)(mg:Str→Option Value)(base:Heap)(CX:CXT)(k:Nat)(f:Addr)(fd:FuncData)(ps:List Str)(sp:Sp):Prop where
 len:∀vs H Q E,sp vs H Q E→vs.length=ps.length
 run:∀(A:Around) (outer:List Env) (s:Shared) (H:Hp) (args:Args) (us:List Value) (vs:List V) (Q:VK) (E:XK),Room k A→Env0 P w K mg base A outer s H→BindsTo s fd args (ps.zip us)→Vals vs us→sp vs H Q E →
  codeAny (model P w) A (.call (.ref f) args) (CR CX outer P w H s Q E) s
theorem Env0.make {P:Program}{w:World}{K:PySem.W.Frag}{mg:Str→Option Value}{base:Heap}{A:Around}{outer:List Env}{s:Shared}{H:Hp}(e:Env0 P w K mg base A outer s H)(C:Addr)(us:List Value)(kw:List (Str×Value)):
  Env0 P w K mg base (A.under (.builtin "type.__call__" ⟨.ref C::us,kw⟩)) outer s H:=⟨by first | exact e.frames | (simpa [Around.under,Code.envs,Code.isFrame,pushEnvs] using e.frames),e.mod,e.bs,e.bsz,e.funs,e.frf,e.hok,e.bare⟩
section
variable {X:Cx}{pins:List (Addr×Obj)}{σ:St}{H:Hp}{s s':Shared}
theorem Inv.env0 (I:Inv X pins σ H s):Env0 X.prog X.w X.K X.mg X.base X.A X.stack s H:=
 ⟨I.ok.frames,I.ok.mod,I.bs,Nat.le_trans I.ok.bsz I.sz,I.stack,I.stkFree,I.hok,I.bare⟩
theorem Inv.after {Q:VK}{u:Value}(I:Inv X pins σ H s)(h:CE X.stack X.prog X.w H s Q u s'):EP X pins σ Q u s':=by
 obtain⟨v,H',os,bare,un,hok,r,q⟩:=h
 obtain⟨hh,g,d,t,os'⟩:=s'
 obtain rfl:os'=s.os:=os
 exact⟨v,H',I.call (h':=hh) (g':=g) (d':=d) (t':=t) (ch:=[]) un hok bare (fun b z=>absurd z (by simp)),r,q⟩
end
def Zj6 (sp:Sp)(dvs:List V)(E:XK)(t:TA):TE:=fun σ H Q=>t σ H fun vs H1=>sp (vs++dvs) H1 Q E
def ZiU (C:Addr)(m:Str)(sp:Sp)(dvs:List V)(E:XK)(ta:TE)(t:TA):TE:=fun σ H Q=>ta σ H fun x H1=>∃a dx fs,x=.ref a∧H1 a=some (.ins C dx fs)∧fs.lookup m=none ∧
 t σ H1 fun vs H2=>sp (x::(vs++dvs)) H2 Q E
def ZjY (C:Addr)(sp:Sp)(dvs:List V)(E:XK)(t:TA):TE:=fun σ H Q=>t σ H fun vs H1=>∀x dx,H1 x=none→H1 dx=none→dx≠x →
 sp (.ref x::(vs++dvs)) (upd (upd H1 dx (.own x)) x (.ins C dx [])) (fun v H2=>v=.non∧Q (.ref x) H2) E
def Binds (K:PySem.W.Frag)(fd:FuncData)(ps:List Str)(ds:List Value):Prop:=
 ∀(s:Shared) (us:List Value),K.In s.heap→(us++ds).length=ps.length→BindsTo s fd ⟨us,[]⟩ (ps.zip (us++ds))
theorem Binds.all {K:PySem.W.Frag}{fd:FuncData}{ps:List Str}(h:∀us:List Value,us.length=ps.length→bindArgs fd ⟨us,[]⟩=pure (ps.zip us)):Binds K fd ps []:=fun s us _ hl=>by
 rw[List.append_nil]at hl ⊢
 exact .of_eq (h us hl)
def ZcS (CX:CXT)(X:Cx)(E:XK):Prop:=∀(pins:List (Addr×Obj)) (σ:St) (H:Hp) (s:Shared) (e:Value) (s':Shared),Inv X pins σ H s→CX X.stack H s E e s'→X.xe e s'
section
variable {X:Cx}{CX:CXT}{k:Nat}{f C:Addr}{fd:FuncData}{ps:List Str}{sp:Sp}{dvs:List V}{ds:List Value}{E:XK}{x m:Str}{p pos apos:Pos}{e o:Expr}{es:List Expr}{ta:TE}{t:TA}
theorem Zgq {pins:List (Addr×Obj)}{σ:St}{H:Hp}{s:Shared}{Q:VK}{us:List Value}{vs:List V}(F:FnOk X.prog X.w X.K X.mg X.base CX k f fd ps sp)(hr:Room k X.A)(hb:Binds X.K fd ps ds)(hd:Vals dvs ds)(hx:ZcS CX X E)
  (I:Inv X pins σ H s) (r:Vals vs us) (h:sp (vs++dvs) H Q E):wpAny (model X.prog X.w) X.A (call (.ref f) us) (EP X pins σ Q) X.xe s:=by
 have r2:Vals (vs++dvs) (us++ds):=r.append hd
 have hl:(us++ds).length=ps.length:=by rw[←r2.length];exact F.len _ _ _ _ h
 refine wpAny_call (codeAny_mono (F.run X.A X.stack s H ⟨us,[]⟩ (us++ds) (vs++dvs) Q E hr I.env0 (hb s us I.kIn hl) r2 h) fun r s' hq=>?_)
 cases r with
 | error e=>exact hx pins σ H s e s' I hq
 | ok fl=>
  cases fl with
  | ret u=>exact I.after hq
  | next=>exact False.elim hq
  | brk=>exact False.elim hq
  | cont=>exact False.elim hq
theorem Zam (F:FnOk X.prog X.w X.K X.mg X.base CX k f fd ps sp)(hr:Room k X.A)(hg:Gl X x)(hm:X.mg x=some (.ref f))(hk:PySem.W.keepIn X.K (.ref f)=true)(hb:Binds X.K fd ps ds)(hd:Vals dvs ds)(hx:ZcS CX X E)
  (ha:PA X (e::es) t) (hdb:(x == ("__debug__":Str))=false:=by decide) (he:starEach (e::es) X.env=(false,eval e X.env)::starEach es X.env:=by rfl) (hpl:(backTo pos (starEach es X.env)).any (·.1)=false:=by rfl):
  PE X (.Call (.Name x p) (e::es) [] pos) (Zj6 sp dvs E t):=by
 intro pins s σ H Q I h
 refine wpAny_Call_Name_kw (ZeF I hg hm ?_ hdb)
 refine PySem.W.callWith_K (h₀:=X.base) I.ok.mod.kin hk (thn (ha pos pins s σ H _ I h) fun us s1 ⟨vs,H1,I1,r,q⟩=>⟨I1.kIn,?_⟩) he hpl
 exact Zgq F hr hb hd hx I1 r q
theorem Zbl {pl:Sem Bool}(he:PE X o ta)(c:Cls X.K C)(hm:Meth X.K C m f)(F:FnOk X.prog X.w X.K X.mg X.base CX k f fd ps sp)(hr:Room k X.A)(hb:Binds X.K fd ps ds)(hd:Vals dvs ds)(hx:ZcS CX X E)(ha:PA X (e::es) t)
  (hst:starEach (e::es) X.env=(false,eval e X.env)::starEach es X.env:=by rfl) (hpl:(backTo pos (starEach es X.env)).any (·.1)=false:=by rfl)
  (ht:eval (.Call (.Attribute o m apos) (e::es) [] pos) X.env=(do
   let ov ←eval o X.env
   standAt apos.atName
   let (f,first) ←holding [ov] (getMethod ov m pl)
   callWith pos f first (backTo pos (starEach (e::es) X.env)) (backToKw pos (keywordEach [] X.env))):=by rfl):
  PE X (.Call (.Attribute o m apos) (e::es) [] pos) (ZiU C m sp dvs E ta t):=by
 intro pins s σ H Q I h
 refine PySem.W.methodCall_KW (pl:=pl) (thn (he pins s σ H _ I h) fun u s1 ⟨x,H1,I1,rx,a,dx,fs,ex,ea,l,q⟩=>?_) ht
 subst ex
 obtain rfl:u=Value.ref a:=rx
 refine Zb0 I1 ea c hm l ?_
 refine PySem.W.callWith_K (first:=[.ref a]) (h₀:=X.base) I.ok.mod.kin hm.kp (thn (ha pos pins s1 σ H1 _ I1 q) fun us s2 ⟨vs,H2,I2,r,q2⟩=>⟨I2.kIn,?_⟩) hst hpl
 exact Zgq (us:=.ref a::us) (vs:=.ref a::vs) F hr hb hd hx I2 (.cons rfl r) q2
theorem Ze9 {pl:Sem Bool}(he:PE X o ta)(c:Cls X.K C)(hm:Meth X.K C m f)(F:FnOk X.prog X.w X.K X.mg X.base CX k f fd ps sp)(hr:Room k X.A)(hb:Binds X.K fd ps ds)(hd:Vals dvs ds)(hx:ZcS CX X E)
  (ht:eval (.Call (.Attribute o m apos) [] [] pos) X.env=(do
   let ov ←eval o X.env
   standAt apos.atName
   let (f,first) ←holding [ov] (getMethod ov m pl)
   callWith pos f first (backTo pos (starEach [] X.env)) (backToKw pos (keywordEach [] X.env))):=by rfl):
  PE X (.Call (.Attribute o m apos) [] [] pos) (ZiU C m sp dvs E ta tNil):=by
 intro pins s σ H Q I h
 refine PySem.W.methodCall_KW (pl:=pl) (thn (he pins s σ H _ I h) fun u s1 ⟨x,H1,I1,rx,a,dx,fs,ex,ea,l,q⟩=>?_) ht
 subst ex
 obtain rfl:u=Value.ref a:=rx
 refine Zb0 I1 ea c hm l ?_
 exact PySem.W.callWith_K0 (first:=[.ref a]) I1.kIn hm.kp (Zgq (us:=[.ref a]) (vs:=[.ref a]) F hr hb hd hx I1 (.cons rfl .nil) q)
structure Mk (K:PySem.W.Frag)(C f:Addr):Prop where
 makes:PySem.W.makesIn K C=true
 init:PySem.W.findIn K (.ref C) "__init__"=some (some (.ref f))
 fn:PySem.W.isFn K (.ref f)=true
 kp:PySem.W.keepIn K (.ref C)=true
theorem ZhE {pins:List (Addr×Obj)}{σ:St}{H:Hp}{s:Shared}{Q:VK}{us:List Value}{vs:List V}(M:Mk X.K C f)(F:FnOk X.prog X.w X.K X.mg X.base CX k f fd ps sp)(hr:Room (k+1) X.A)(hb:Binds X.K fd ps ds)(hd:Vals dvs ds)
  (hx:ZcS CX X E) (I:Inv X pins σ H s) (r:Vals vs us)
  (h:∀x dx,H x=none→H dx=none→dx≠x→sp (.ref x::(vs++dvs)) (upd (upd H dx (.own x)) x (.ins C dx [])) (fun v H2=>v=.non∧Q (.ref x) H2) E):
  wpAny (model X.prog X.w) X.A (call (.ref C) us) (EP X pins σ Q) X.xe s:=by
 have hq:=h (s.heap.objs.size+1) s.heap.objs.size (I.hok.fresh (Nat.le_succ _)) (I.hok.fresh (Nat.le_refl _)) (Nat.ne_of_lt (Nat.lt_succ_self _))
 have I2:=Inv.made (C:=C) I
 have r2:Vals (V.ref (s.heap.objs.size+1)::(vs++dvs)) (Value.ref (s.heap.objs.size+1)::(us++ds)):=.cons rfl (r.append hd)
 have hl:(Value.ref (s.heap.objs.size+1)::us++ds).length=ps.length:=by
  have e:=r2.length
  rw[F.len _ _ _ _ hq]at e
  exact e.symm
 refine wpAny_call (ZhX (f:=f) I.kIn M.makes M.init (beq_iff_eq.mp M.fn) (codeAny_mono (F.run _ X.stack _ _ ⟨Value.ref (s.heap.objs.size+1)::us,[]⟩ (Value.ref (s.heap.objs.size+1)::(us++ds)) _ _ E (hr.make C us [])
  (I2.env0.make C us []) (hb _ (Value.ref (s.heap.objs.size+1)::us) I2.kIn hl) r2 hq) fun r s' hq'=>?_))
 cases r with
 | error e=>exact hx pins σ _ _ e s' I2 hq'
 | ok fl=>
  cases fl with
  | ret u=>
   obtain⟨v,H',I3,rv,ev,q3⟩:=I2.after hq'
   subst ev
   exact⟨rv,⟨V.ref (s.heap.objs.size+1),H',I3,rfl,q3⟩⟩
  | next=>exact False.elim hq'
  | brk=>exact False.elim hq'
  | cont=>exact False.elim hq'
theorem Zgz (M:Mk X.K C f)(F:FnOk X.prog X.w X.K X.mg X.base CX k f fd ps sp)(hr:Room (k+1) X.A)(hg:Gl X x)(hm:X.mg x=some (.ref C))(hb:Binds X.K fd ps ds)(hd:Vals dvs ds)(hx:ZcS CX X E)
  (ha:PA X (e::es) t) (hdb:(x == ("__debug__":Str))=false:=by decide) (he:starEach (e::es) X.env=(false,eval e X.env)::starEach es X.env:=by rfl) (hpl:(backTo pos (starEach es X.env)).any (·.1)=false:=by rfl):
  PE X (.Call (.Name x p) (e::es) [] pos) (ZjY C sp dvs E t):=by
 intro pins s σ H Q I h
 refine wpAny_Call_Name_kw (ZeF I hg hm ?_ hdb)
 refine PySem.W.callWith_K (h₀:=X.base) I.ok.mod.kin M.kp (thn (ha pos pins s σ H _ I h) fun us s1 ⟨vs,H1,I1,r,q⟩=>⟨I1.kIn,?_⟩) he hpl
 exact ZhE M F hr hb hd hx I1 r q
end
section
variable {X:Cx}{CX:CXT}{k:Nat}{f C:Addr}{fd:FuncData}{ps ks:List Str}{sp:Sp}{E:XK}{x m:Str}{p pos apos kpos:Pos}{e o:Expr}{es:List Expr}{kws:List Keyword}{te ta:TE}{t tk:TA}{nm:Option Str}
variable {g:List Value→List Value→List Value}{gV:List V→List V→List V}
end
structure FnScope (N P:List Str)(sc:Scope):Prop where
 kind:sc.kind=.function
 co:sc.isCoroutine=false
 gen:sc.isGenerator=false
 nd:N.Nodup
 pre:N.take P.length=P
 par:∀x∈P,sc.names.lookup x=some .local∨sc.names.lookup x=some .cell
 nofree:∀y∈sc.names,y.2≠.free
theorem Zei {kindOf:Str→Option NameKind}{x:Str}:∀ {binds:List (Str×Value)} {m:Str→Option Value},(∀v,(x,v)∉binds)→bindL kindOf binds m x=m x
 | [],_,_=>rfl
 | (n,v)::r,m,h=>by
  unfold bindL
  rw[Zei fun w hw=>h w (List.mem_cons_of_mem _ hw)]
  split
  ·have:x≠n:=by rintro rfl;exact h v List.mem_cons_self
   simp[this]
  ·rfl
theorem Zek {kindOf:Str→Option NameKind}{x:Str}:∀ {binds:List (Str×Value)} {m:Str→Option Value},(∀v,(x,v)∉binds)→bindC kindOf binds m x=m x
 | [],_,_=>rfl
 | (n,v)::r,m,h=>by
  unfold bindC
  rw[Zek fun w hw=>h w (List.mem_cons_of_mem _ hw)]
  split
  ·rfl
  ·have:x≠n:=by rintro rfl;exact h v List.mem_cons_self
   simp[this]
theorem Zej {kindOf:Str→Option NameKind}{x:Str}{v:Value}:∀ {P:List Str} {vs:List Value} {i:Nat} {m:Str→Option Value},P.Nodup→P[i]?=some x→vs[i]?=some v→kindOf x=some .local →
  bindL kindOf (P.zip vs) m x=some v
 | [],_,_,_,_,h,_,_=>by simp at h
 | _::_,[],_,_,_,_,h,_=>by simp at h
 | p::P,w::vs,0,m,nd,h1,h2,hk=>by
  simp at h1 h2;subst h1;subst h2
  show bindL kindOf ((p,w)::P.zip vs) m p=_
  unfold bindL
  rw[Zei fun v hv=>(List.nodup_cons.mp nd).1 (List.of_mem_zip hv).1,if_pos hk]
  simp
 | p::P,w::vs,i+1,m,nd,h1,h2,hk=>by
  show bindL kindOf ((p,w)::P.zip vs) m x=_
  unfold bindL
  exact Zej (i:=i) (List.nodup_cons.mp nd).2 (by simpa using h1) (by simpa using h2) hk
theorem Zel {kindOf:Str→Option NameKind}{x:Str}{v:Value}:∀ {P:List Str} {vs:List Value} {i:Nat} {m:Str→Option Value},P.Nodup→P[i]?=some x→vs[i]?=some v→kindOf x≠some .local →
  bindC kindOf (P.zip vs) m x=some v
 | [],_,_,_,_,h,_,_=>by simp at h
 | _::_,[],_,_,_,_,h,_=>by simp at h
 | p::P,w::vs,0,m,nd,h1,h2,hk=>by
  simp at h1 h2;subst h1;subst h2
  show bindC kindOf ((p,w)::P.zip vs) m p=_
  unfold bindC
  rw[Zek fun v hv=>(List.nodup_cons.mp nd).1 (List.of_mem_zip hv).1,if_neg hk]
  simp
 | p::P,w::vs,i+1,m,nd,h1,h2,hk=>by
  show bindC kindOf ((p,w)::P.zip vs) m x=_
  unfold bindC
  exact Zel (i:=i) (List.nodup_cons.mp nd).2 (by simpa using h1) (by simpa using h2) hk
def start (N:List Str)(vs:List V):St:=vs.map some++List.replicate (N.length-vs.length) none
def cxOf (CX:CXT)(P:Program)(w:World)(K:PySem.W.Frag)(mg:Str→Option Value)(base:Heap)(N:List Str)(qual:Str)(scope:Scope)(f:Addr)(cd:Value)(A:Around)(outer:List Env)(s:Shared)(H:Hp)(E:XK):Cx where
 prog:=P
 w:=w
 K:=K
 mg:=mg
 base:=base
 A:=A.deeper (envOfC qual scope s.heap.objs.size f cd)
 N:=N
 s₀:=s
 H₀:=H
 env:=envOfC qual scope s.heap.objs.size f cd
 outer:=outer
 stack:=envOfC qual scope s.heap.objs.size f cd::outer
 ex:=[]
 calm:=true
 fn:=fun _=>true
 pn:=[]
 xe:=fun e s'=>wpAny (model P w) (A.deeper (envOfC qual scope s.heap.objs.size f cd)) (leaving (envOfC qual scope s.heap.objs.size f cd) e) (fun _ s''=>CX outer H s E e s'') (fun e' s''=>CX outer H s E e' s'') s'
theorem Zfv {sc:Scope}{n:Nat}{x:Str}(h:sc.names.lookup x=some .cell):∃c,(cellsFrom n sc.names []).lookup x=some c:=by
 have q:=PySem.W.cellsFrom_some sc.names n [] (.inl h)
 exact Option.isSome_iff_exists.mp q
theorem Zg0 {CX:CXT}{P:Program}{w:World}{K:PySem.W.Frag}{mg:Str→Option Value}{base:Heap}{N ps:List Str}{qual:Str}{scope:Scope}{f:Addr}{cd:Value}{A:Around}{outer:List Env}{s s1:Shared}{H:Hp}{E:XK}{us:List Value}{vs:List V}
  (S:FnScope N ps scope) (hd:A.handled=none) (e0:Env0 P w K mg base A outer s H) (hl:vs.length=ps.length) (r:Vals vs us)
  (x:InCallC s s.heap.objs.size (bindL (envOfC qual scope s.heap.objs.size f cd).kindOf (ps.zip us) fun _=>none) (cellsFrom (s.heap.objs.size+1) scope.names []) (bindC (envOfC qual scope s.heap.objs.size f cd).kindOf (ps.zip us) fun _=>none) s1):
  Inv (cxOf CX P w K mg base N qual scope f cd A outer s H E) [] (start N vs) H s1:=by
 have hpl:ps.length≤N.length:=by have:=congrArg List.length S.pre;rw[List.length_take]at this;omega
 obtain⟨h1,tk,rfl,hk⟩:=x.done
 have noA:∀b:Addr,b∉(cxOf CX P w K mg base N qual scope f cd A outer s H E).ex:=fun b z=>absurd (show b∈([]:List Addr) from z) (by simp)
 refine⟨⟨e0.mod,S.kind,rfl,rfl,Nat.le_refl _,fun y z c h1 h2=>?_,fun y hy=>?_,fun y c _ h=>?_,fun _=>hd,Around.frames_deeper e0.frames,.inr ⟨rfl,rfl⟩,fun b z=>absurd z (noA b),e0.bs,e0.bsz,fun b _ _=>noA b,fun b z=>absurd z (noA b),e0.funs,e0.frf⟩,
  rfl,e0.bare,Un.kept hk,⟨_,x.toInCall.ns,fun i y v h1 h2 h3=>?_⟩,fun y c h=>⟨_,x.cell y c h⟩,e0.hok.fresh (Nat.le_refl _),fun y c h=>?_,fun p hp=>absurd (show p∈([]:List (Addr×Obj)) from hp) (by simp),e0.hok.kept hk,?_⟩
 ·exact name_of_addr x.apart (PySem.mem_of_lookup h1) (PySem.mem_of_lookup h2)
 ·have hy:scope.names.lookup y=some .cell∨scope.names.lookup y=some .free:=hy
  rcases hy with hy | hy
  ·exact Zfv hy
  ·exact absurd rfl (S.nofree _ (PySem.mem_of_lookup hy))
 ·exact Nat.le_of_lt (x.above y c (PySem.mem_of_lookup h))
 ·have hi:i<vs.length:=by
   unfold start at h2
   by_cases hi:i<vs.length
   ·exact hi
   ·rw[List.getElem?_append_right (by simpa using hi)]at h2
    rw[List.getElem?_replicate]at h2
    split at h2<;>cases h2
  have ha:vs[i]?=some v:=by
   unfold start at h2
   rw[List.getElem?_append_left (by simpa using hi),List.getElem?_map]at h2
   cases e:vs[i]? with
   | none=>rw[e]at h2;cases h2
   | some a=>rw[e]at h2;cases h2;rfl
  obtain⟨u,hu,rv⟩:=r.get ha
  have hp:ps[i]?=some y:=by
   rw[←S.pre,List.getElem?_take_of_lt (by omega)];exact h1
  have ndP:ps.Nodup:=by rw[←S.pre];exact S.nd.sublist (List.take_sublist _ _)
  refine⟨u,rv,?_⟩
  rcases S.par y (List.mem_of_getElem? hp) with k | k
  ·exact .inl ⟨k,Zej ndP hp hu k⟩
  ·obtain⟨c,e⟩:=Zfv (n:=s.heap.objs.size+1) k
   refine .inr ⟨.inl k,c,e,?_⟩
   have q:=x.cell y c e
   rw[Zel ndP hp hu (by show scope.names.lookup y≠_;rw[k];decide)]at q
   exact q
 ·exact e0.hok.fresh (Nat.le_of_lt (x.above y c (PySem.mem_of_lookup h)))
 ·unfold start
  show _=N.length
  rw[List.length_append,List.length_map,List.length_replicate]
  omega
theorem Zk4 {CX:CXT}{P:Program}{w:World}{K:PySem.W.Frag}{mg:Str→Option Value}{base:Heap}{k:Nat}{f:Addr}{name qual:Str}{params:Arguments}{body:List Stmt}{scope:Scope}{dV kV doc pm cdv ct oc:Value}{an od:Option Addr}
  {osl:Array (Option Value)} {N ps:List Str} {sp:Sp} (lk:K.lookup f=some ⟨oc,od,.func (PySem.W.fnOf name qual params body scope dV kV doc pm an cdv ct),osl⟩) (hcd:PySem.W.codeIn K cdv qual=true) (S:FnScope N ps scope)
  (len:∀vs H Q E,sp vs H Q E→vs.length=ps.length)
  (hbody:∀(A:Around) (outer:List Env) (s:Shared) (H:Hp) (vs:List V) (Q:VK) (E:XK),Room k (A.deeper (envOfC qual scope s.heap.objs.size f cdv))→sp vs H Q E →
   ∃t,PSs (cxOf CX P w K mg base N qual scope f cdv A outer s H E) body t∧t { nx:=fun _ H'=>Q .non H',rt:=Q } (start N vs) H):
  FnOk P w K mg base CX (k+1) f (PySem.W.fnOf name qual params body scope dV kV doc pm an cdv ct) ps sp:=by
 refine⟨len,fun A outer s H args us vs Q E hr e0 hb r hsp=>?_⟩
 have hl:=len _ _ _ _ hsp
 have KX:K.In s.heap:=e0.mod.kin.keeps fun b o e=>(e0.bs b o e).1
 have lim:s.heap.NoLimit:=e0.mod.nolimit.keeps fun b o e=>(e0.bs b o e).1
 have hkind:∀y∈ps.zip us,scope.names.lookup y.1=some .local∨(scope.names.lookup y.1=some .cell∧((cellsFrom (s.heap.objs.size+1) scope.names []).lookup y.1).isSome=true):=fun ⟨n,v⟩ hy=>by
  rcases S.par n (List.of_mem_zip hy).1 with q | q
  ·exact .inl q
  ·exact .inr ⟨q,PySem.W.cellsFrom_some _ _ _ (.inl q)⟩
 refine codeAny_call_function hr.depth (KX _ _ lk) rfl S.co S.gen rfl (PySem.W.codeRec_of KX hcd) (hb _ _ _ _ ?_)
 refine wpAny_newFunctionEnv_cells S.kind hkind fun env he s1 x=>?_
 subst he
 refine⟨lim.keeps x.toInCall.keep,codeAny_func ?_⟩
 obtain⟨t,ht,hq⟩:=hbody A outer s H vs Q E (hr.deeper _) hsp
 have I:Inv (cxOf CX P w K mg base N qual scope f cdv A outer s H E) [] (start N vs) H s1:=Zg0 S hr.hd e0 hl r x
 refine wpAny_mono (ht [] s1 (start N vs) H _ I hq) (fun fl s' hs=>?_) fun e s' hs=>hs
 have fin:∀ {σ':St} {H':Hp} {v:V} {u:Value},Inv (cxOf CX P w K mg base N qual scope f cdv A outer s H E) [] σ' H' s'→RelV v u→Q v H'→CE outer P w H s Q u s':=
  fun {σ' H' v u} J rv q=>⟨v,H',J.os,J.bare,J.base,J.hok,rv,q⟩
 cases fl with
 | ret u=>
  obtain⟨v,σ',H',J,rv,q⟩:=hs
  exact fin J rv q
 | next=>
  obtain⟨σ',H',J,q⟩:=hs
  exact fin (v:=V.non) (u:=Value.none) J rfl q
 | brk=>
  obtain⟨_,_,_,q⟩:=hs
  exact False.elim q
 | cont=>
  obtain⟨_,_,_,q⟩:=hs
  exact False.elim q
section
variable {X:Cx}{x:Str}{p pos:Pos}{e:Expr}{es:List Expr}{t:TA}{id T:String}{r:List V→Hp→VK→Prop}
def tCB (r:List V→Hp→VK→Prop)(t:TA):TE:=fun σ H Q=>t σ H fun vs H1=>r vs H1 Q
theorem Zal (hc:Zb5 X (.builtin id) r) (hg:Gl X x) (hm:X.mg x=none) (hv:bootBuiltins x=some (.builtin id)) (ha:PA X (e::es) t) (hn:x≠"__name__":=by decide) (hdb:(x == ("__debug__":Str))=false:=by decide)
  (he:starEach (e::es) X.env=(false,eval e X.env)::starEach es X.env:=by rfl) (hpl:(backTo pos (starEach es X.env)).any (·.1)=false:=by rfl):PE X (.Call (.Name x p) (e::es) [] pos) (tCB r t):=by
 intro pins s σ H Q I h
 refine wpAny_Call_Name_kw (Zcy I hg hm hv ?_ hn hdb)
 exact PyProof.Rows.callWith_builtin1 (thn (ha pos pins s σ H _ I h) fun us s1 ⟨vs,H1,I1,r1,q1⟩=>hc pins s1 σ H1 vs us Q I1 r1 q1) he hpl
theorem Zbf (hc:Zb5 X (.type T) r) (hg:Gl X x) (hm:X.mg x=none) (hv:bootBuiltins x=some (.type T)) (ha:PA X (e::es) t) (hn:x≠"__name__":=by decide) (hdb:(x == ("__debug__":Str))=false:=by decide)
  (he:starEach (e::es) X.env=(false,eval e X.env)::starEach es X.env:=by rfl) (hpl:(backTo pos (starEach es X.env)).any (·.1)=false:=by rfl):PE X (.Call (.Name x p) (e::es) [] pos) (tCB r t):=by
 intro pins s σ H Q I h
 refine wpAny_Call_Name_kw (Zcy I hg hm hv ?_ hn hdb)
 exact PyProof.Rows.callWith_type1 (thn (ha pos pins s σ H _ I h) fun us s1 ⟨vs,H1,I1,r1,q1⟩=>hc pins s1 σ H1 vs us Q I1 r1 q1) he hpl
end
end L2
namespace HT
open PySem PyProof.Rows
section
open PySem.SeqAt
open PySem.AutoSeq1 (wpAny_loadPart')
open PySem.MeetsSeq PySem.MeetsSeq2 PySem.MeetsSeq3
end
section
variable {prog:Program}{w:World}{A:Around}{E:Value→Shared→Prop}{s:Shared}
def sIx (n d:Nat):Option Int→Nat
 | none=>d
 | some v=>if v<0 then (v+(n:Int)).toNat else min v.toNat n
theorem sIx_none (n d:Nat):sIx n d none=d:=rfl
theorem sIx_nat (n d k:Nat):sIx n d (some (k:Int))=min k n:=by
 show (if (k:Int)<0 then ((k:Int)+(n:Int)).toNat else min (k:Int).toNat n)=min k n
 rw[if_neg (by omega),Int.toNat_natCast]
theorem sIx_le (n d:Nat)(hd:d≤n)(o:Option Int):sIx n d o≤n:=by
 cases o with
 | none=>exact hd
 | some v=>
  show (if v<0 then (v+(n:Int)).toNat else min v.toNat n)≤n
  by_cases hv:v<0
  ·rw[if_pos hv];omega
  ·rw[if_neg hv];exact Nat.min_le_right _ _
theorem clip_eq (v:Int)(n d:Nat):(if v<0 then max (v+(n:Int)) 0 else min v (n:Int))=((sIx n d (some v):Nat):Int):=by
 show (if v<0 then max (v+(n:Int)) 0 else min v (n:Int))=(((if v<0 then (v+(n:Int)).toNat else min v.toNat n):Nat):Int)
 by_cases hv:v<0
 ·simp only[if_pos hv];omega
 ·simp only[if_neg hv];omega
end
end HT
namespace L2
open PySem PySem.Spec PyProof.Rows
abbrev TO:=St→Hp→(Option Int→Hp→Prop)→Prop
def PO (X:Cx)(e:Option Expr)(t:TO):Prop:=
 ∀(pins:List (Addr×Obj)) (s:Shared) (σ:St) (H:Hp) (Q:Option Int→Hp→Prop),Inv X pins σ H s→t σ H Q →
  wpAny (model X.prog X.w) X.A (evalPart e X.env) (fun u s'=>∃o H',Inv X pins σ H' s'∧IsPart u o∧Q o H') X.xe s
def tNoPart:TO:=fun _ H Q=>Q none H
def ZjV (t:TE):TO:=fun σ H Q=>t σ H fun x H1=>∃i,x=.int i∧Q (some i) H1
section
variable {X:Cx}{e:Expr}{te:TE}{lo hi:Option Expr}{tl th:TO}{pos p2:Pos}
theorem ZbW:PO X none tNoPart:=by
 intro pins s σ H Q I h
 rw[evalPart_none]
 exact wpAny_pure ⟨none,H,I,.none,h⟩
theorem Za6 (h:PE X e te):PO X (some e) (ZjV te):=by
 intro pins s σ H Q I hw
 rw[evalPart_some]
 refine thn (h pins s σ H _ I hw) fun u s1 ⟨x,H1,I1,r1,q1⟩=>?_
 obtain⟨i,rfl,q⟩:=q1
 obtain⟨t,rfl⟩:=r1
 exact⟨some i,H1,I1,.int i t,q⟩
def SlR (X:Cx)(r:V→Option Int→Option Int→Hp→VK→Prop):Prop:=
 ∀(pins:List (Addr×Obj)) (s:Shared) (σ:St) (H:Hp) (x:V) (v vl vu:Value) (lo hi:Option Int) (sl:Addr) (Q:VK),Inv X pins σ H s→RelV x v→s.heap.IsSliceOf sl vl vu .none→IsPart vl lo→IsPart vu hi→r x lo hi H Q →
  ∃T id,typeLookup (.type T) "__getitem__"=pure (some (.builtin id))∧s.TypeIs v T∧wpAny (model X.prog X.w) X.A (getItem v (.ref sl)) (EP X pins σ Q) X.xe s
def tSl (r:V→Option Int→Option Int→Hp→VK→Prop)(te:TE)(tl th:TO):TE:=fun σ H Q=>te σ H fun x H1=>tl σ H1 fun l H2=>th σ H2 fun u H3=>r x l u H3 Q
theorem Za3 {r:V→Option Int→Option Int→Hp→VK→Prop}(hr:SlR X r)(he:PE X e te)(hl:PO X lo tl)(hu:PO X hi th):PE X (.Subscript e (.Slice lo hi none p2) pos) (tSl r te tl th):=by
 intro pins s σ H Q I h
 refine Subscript_ (thn (he pins s σ H _ I h) fun v s1 ⟨x,H1,I1,r1,q1⟩=>?_)
 refine wpAny_Slice (thn (hl pins s1 σ H1 _ I1 q1) fun vl s2 ⟨l,H2,I2,pl,q2⟩=>thn (hu pins s2 σ H2 _ I2 q2) fun vu s3 ⟨u,H3,I3,pu,q3⟩=>?_)
 rw[evalPart_none]
 refine wpAny_pure ?_
 have I4:Inv X pins σ H3 { s3 with heap:=s3.heap.push { cls:=.type "slice",data:=.fields #[vl,vu,.none] } }:=I3.kept (t':=s3.toks) fun b ob q=>Heap.get?_push_of_some _ q
 obtain⟨T,id,hT,ht,hg⟩:=hr pins { s3 with heap:=s3.heap.push { cls:=.type "slice",data:=.fields #[vl,vu,.none] } } σ H3 x v vl vu l u s3.heap.objs.size Q I4 r1 (Heap.IsSliceOf.new ..) pl pu q3
 show wpAny (model X.prog X.w) X.A (subscriptTail e (.Slice lo hi none p2) v (.ref s3.heap.objs.size)) (EP X pins σ Q) X.xe { s3 with heap:=s3.heap.push { cls:=.type "slice",data:=.fields #[vl,vu,.none] } }
 exact tail_any (ops:=[.ref s3.heap.objs.size,v]) ht hT hg (by with_unfolding_all rfl)
def cutV (xs:List V)(lo hi:Option Int):List V:=(xs.drop (HT.sIx xs.length 0 lo)).take (HT.sIx xs.length xs.length hi-HT.sIx xs.length 0 lo)
theorem ZeN (xs:List V)(lo hi:Option Int):(cutV xs lo hi).length≤xs.length:=by
 unfold cutV
 rw[List.length_take,List.length_drop]
 omega
end
end L2
namespace L2
open PySem PySem.Spec PyProof.Rows
def ixN (n:Nat)(i:Int):Option Nat:=if 0≤i then (if i<n then some i.toNat else none) else if -(n:Int)≤i then some (i+n).toNat else none
def atI {α:Type}(xs:List α)(i:Int):Option α:=(ixN xs.length i).bind fun j=>xs[j]?
theorem Zjq {n:Nat}{i:Int}{j:Nat}(h:ixN n i=some j):seqIndex? i n=some j∧j<n∧-(n:Int)≤i∧i<n:=by
 unfold ixN at h
 by_cases h0:0≤i
 ·rw[if_pos h0]at h
  by_cases h1:i<n
  ·rw[if_pos h1]at h
   have e:i.toNat=j:=Option.some.inj h
   exact⟨by rw[seqIndex_of h0 h1,e],by omega,by omega,h1⟩
  ·rw[if_neg h1]at h;cases h
 ·rw[if_neg h0]at h
  by_cases h1:-(n:Int)≤i
  ·rw[if_pos h1]at h
   have e:(i+n).toNat=j:=Option.some.inj h
   exact⟨by rw[seqIndex_neg (by omega) h1,e],by omega,h1,by omega⟩
  ·rw[if_neg h1]at h;cases h
theorem ZeS {α:Type}{xs:List α}{i:Int}{v:α}(h:atI xs i=some v):∃j,seqIndex? i xs.length=some j∧xs[j]?=some v∧j<xs.length∧-(xs.length:Int)≤i∧i<xs.length:=by
 unfold atI at h
 cases e:ixN xs.length i with
 | none=>rw[e]at h;cases h
 | some j=>
  rw[e]at h
  obtain⟨h1,h2,h3,h4⟩:=Zjq e
  exact⟨j,h1,h,h2,h3,h4⟩
def ZjL (b:Expr):Prop:=∀o i,subscripted b false o i=operate [o,i] (getItem o i)
def IxR (X:Cx)(r:R2):Prop:=
 ∀(value slice:Expr) (pins:List (Addr×Obj)) (s:Shared) (σ:St) (H:Hp) (x y:V) (v u:Value) (Q:VK),Inv X pins σ H s→RelV x v→RelV y u→r x y H Q →
  subscripted slice false v u=operate [v,u] (getItem v u)→wpAny (model X.prog X.w) X.A (subscriptTail value slice v u) (EP X pins σ Q) X.xe s
def MtR (X:Cx)(id:String)(r:V→List V→Hp→VK→Prop):Prop:=
 ∀(pins:List (Addr×Obj)) (s:Shared) (σ:St) (H:Hp) (x:V) (xs:List V) (v:Value) (us:List Value) (Q:VK),Inv X pins σ H s→RelV x v→Vals xs us→r x xs H Q →
  wpAny (model X.prog X.w) X.A (call (.builtin id) (v::us)) (EP X pins σ Q) X.xe s
section
variable {X:Cx}{a b:Expr}{ta tb:TE}{pos:Pos}
theorem ZbH {r:R2}(hr:IxR X r)(ha:PE X a ta)(hb:PE X b tb)(hs:ZjL b):PE X (.Subscript a b pos) (tOp r ta tb):=by
 intro pins s σ H Q I h
 exact Subscript_ (binT ha hb I h fun v u s2 x y H2 I2 rx ry q=>hr a b pins s2 σ H2 x y v u Q I2 rx ry q (hs _ _))
def rIxL (K:PySem.W.Frag):R2:=fun x y H Q=>∃p xs i v,x=.ref p∧y=.int i∧SqL K H p xs∧atI xs i=some v∧Q v H
def rIxT (K:PySem.W.Frag):R2:=fun x y H Q=>∃p xs i v,x=.ref p∧y=.int i∧SqT K H p xs∧atI xs i=some v∧Q v H
def rIxS:R2:=fun x y H Q=>∃z i c,x=.str z∧y=.int i∧z.length≤sizeLine∧atI z.cps.toList i=some c∧Q (.str ⟨#[c]⟩) H
theorem Zjp:IxR X (rIxL X.K):=by
 intro value slice pins s σ H x y v u Q I rx ry h hs
 obtain⟨p,xs,i,z,rfl,rfl,hq,he,q⟩:=h
 cases rx
 obtain⟨t,rfl⟩:=ry
 obtain⟨its,r,pl,hz⟩:=I.list hq
 obtain⟨j,h1,h2,h3,h4,h5⟩:=ZeS he
 obtain⟨w,ew,rw'⟩:=r.get h2
 have hl:=r.length
 have hn:=Zd3
 have fin:EP X pins σ Q w s:=⟨z,H,I,rw',q⟩
 by_cases h0:0≤i
 ·have hj:i.toNat=j:=by
   rw[seqIndex_of h0 h5]at h1
   exact Option.some.inj h1
  exact item_listR pl.isList h0 (by omega) (by rw[hj];simpa using ew) fin hs
 ·have hj:(i+(its.toArray.size:Int)).toNat=j:=by
   rw[seqIndex_neg (by omega) h4]at h1
   rw[List.size_toArray,←hl]
   exact Option.some.inj h1
  exact subscriptTail_builtinR (x:=w) pl.isList.typeIs slot_list_getitem.lookup
   (wpAny_getItem_list_neg (Q:=fun r s'=>r=w∧EP X pins σ Q r s') pl.isList (by omega) (by rw[List.size_toArray]<;>omega) (by omega) (by rw[hj];simpa using ew) ⟨rfl,fin⟩) hs
theorem ZkQ:IxR X (rIxT X.K):=by
 intro value slice pins s σ H x y v u Q I rx ry h hs
 obtain⟨p,xs,i,z,rfl,rfl,hq,he,q⟩:=h
 cases rx
 obtain⟨t,rfl⟩:=ry
 obtain⟨its,r,pl,hz⟩:=I.tuple hq
 obtain⟨j,h1,h2,h3,h4,h5⟩:=ZeS he
 obtain⟨w,ew,rw'⟩:=r.get h2
 have hl:=r.length
 have hn:=Zd3
 have fin:EP X pins σ Q w s:=⟨z,H,I,rw',q⟩
 exact subscriptTail_builtinR (x:=w) pl.typeIs slot_tuple_getitem.lookup
  (getItem_tuple (j:=j) (Q:=fun r s'=>r=w∧EP X pins σ Q r s') pl (by omega) (by omega) (by rw[List.size_toArray,←hl];exact h1) (by simpa using ew) ⟨rfl,fin⟩) hs
theorem ZkR:IxR X rIxS:=by
 intro value slice pins s σ H x y v u Q I rx ry h hs
 obtain⟨z,i,c,rfl,rfl,hz,he,q⟩:=h
 obtain⟨t,rfl⟩:=rx
 obtain⟨t',rfl⟩:=ry
 obtain⟨j,h1,h2,h3,h4,h5⟩:=ZeS he
 have hl:z.cps.toList.length=z.length:=by simp[Str.length]
 rw[hl]at h1 h4 h5
 have hn:=Zd3
 exact tail_any (typeIs_str s z t) slot_str_getitem.lookup (getItem_str (c:=c) (by
  have e1:decide (i < -(2 ^ 63:Int))=false:=decide_eq_false (by omega)
  have e2:decide (i≥2 ^ 63)=false:=decide_eq_false (by omega)
  rw[e1,e2,Bool.or_false]) (by rw[h1];simpa using h2) ⟨.str ⟨#[c]⟩,H,I.tok _,⟨_,rfl⟩,q⟩) hs
theorem ZdP (lo hi:Option Int)(n:Nat):(sliceBounds lo hi none n).1=((HT.sIx n 0 lo:Nat):Int)∧(sliceBounds lo hi none n).2.1=((HT.sIx n n hi:Nat):Int)∧(sliceBounds lo hi none n).2.2=1:=by
 refine⟨?_,?_,rfl⟩
 ·cases lo with
  | none=>simp[sliceBounds,HT.sIx]
  | some i=>
   simp only[sliceBounds,HT.sIx,Option.getD_none,show (1:Int)>0 by decide,if_true]
   by_cases h:i<0
   ·simp only[h,if_true]<;>omega
   ·simp only[h,if_false]<;>omega
 ·cases hi with
  | none=>simp[sliceBounds,HT.sIx]
  | some i=>
   simp only[sliceBounds,HT.sIx,Option.getD_none,show (1:Int)>0 by decide,if_true]
   by_cases h:i<0
   ·simp only[h,if_true]<;>omega
   ·simp only[h,if_false]<;>omega
theorem Zdi (its:List Value)(lo hi:Option Int):slicePick its.toArray lo hi none=((its.drop (HT.sIx its.length 0 lo)).take (HT.sIx its.length its.length hi-HT.sIx its.length 0 lo)).toArray:=by
 obtain⟨h1,h2,h3⟩:=ZdP lo hi its.toArray.size
 unfold slicePick
 rw[h1,h2,h3]
 simp only[sliceRange_one,pick_run,List.size_toArray]<;>rfl
def rSlL (K:PySem.W.Frag):V→Option Int→Option Int→Hp→VK→Prop:=fun x lo hi H Q=>∃a xs,x=.ref a∧SqL K H a xs∧∀p,H p=none→Q (.ref p) (upd H p (.lst (cutV xs lo hi)))
theorem ZlV:SlR X (rSlL X.K):=by
 intro pins s σ H x v vl vu lo hi sl Q I rx hs pl pu h
 obtain⟨a,xs,rfl,hx,q⟩:=h
 cases rx
 obtain⟨its,r,ht,hz⟩:=I.list hx
 have hlen:=r.length
 refine⟨"list",_,slot_list_getitem.lookup,ht.isList.typeIs,?_⟩
 refine wpAny_getItem_list_slice ht.isList hs pl pu .none (by simp) ?_ (by rw[List.size_toArray]<;>omega)
 rw[Zdi,←hlen]
 refine⟨.ref s.heap.objs.size,_,I.laid (t':=s.toks) (o:=.lst (cutV xs lo hi)) (fun b ob q=>Heap.get?_push_of_some _ q) (Nat.le_refl _) ?_,rfl,q _ (I.hok.fresh (Nat.le_refl _))⟩
 exact⟨Nat.le_trans (ZeN xs lo hi) hz,_,0,(r.drop (HT.sIx xs.length 0 lo)).take (HT.sIx xs.length xs.length hi-HT.sIx xs.length 0 lo),Heap.get?_push_size _ rfl⟩
def Zbp:V→Bool
 | .non=>true
 | .bl _=>true
 | .int _=>true
 | .str _=>true
 | _=>false
def eqV:V→V→Bool
 | .non,.non=>true
 | .bl a,.bl b=>a == b
 | .bl a,.int b=>(if a then 1 else 0) == b
 | .int a,.bl b=>a == (if b then 1 else 0)
 | .int a,.int b=>a == b
 | .str a,.str b=>a == b
 | _,_=>false
theorem Zk6 {A:Around}{s:Shared}{y x:V}{u v:Value}(ry:RelV y u)(rx:RelV x v)(fy:Zbp y=true)(fx:Zbp x=true):SeqAt.EqAt A s u v (eqV y x):=by
 cases y with
 | non=>
  cases ry
  cases x with
  | non=>cases rx;exact SeqAt.EqAt.same _
  | bl b=>cases rx;exact SeqAt.EqAt.none_bool b
  | int b=>obtain⟨t,rfl⟩:=rx;exact SeqAt.EqAt.none_int b t
  | str b=>obtain⟨t,rfl⟩:=rx;exact SeqAt.EqAt.none_str b t
  | _=>exact absurd (show false=true from fx) Bool.false_ne_true
 | bl a=>
  cases ry
  cases x with
  | non=>cases rx;exact SeqAt.EqAt.bool_none a
  | bl b=>cases rx;exact SeqAt.EqAt.bool_bool a b
  | int b=>obtain⟨t,rfl⟩:=rx;exact SeqAt.EqAt.bool_int a b t
  | str b=>obtain⟨t,rfl⟩:=rx;exact SeqAt.EqAt.bool_str a b t
  | _=>exact absurd (show false=true from fx) Bool.false_ne_true
 | int a=>
  obtain⟨t',rfl⟩:=ry
  cases x with
  | non=>cases rx;exact SeqAt.EqAt.int_none a t'
  | bl b=>cases rx;exact SeqAt.EqAt.int_bool a t' b
  | int b=>obtain⟨t,rfl⟩:=rx;exact SeqAt.EqAt.int_int a t' b t
  | str b=>obtain⟨t,rfl⟩:=rx;exact SeqAt.EqAt.int_str a t' b t
  | _=>exact absurd (show false=true from fx) Bool.false_ne_true
 | str a=>
  obtain⟨t',rfl⟩:=ry
  cases x with
  | non=>cases rx;exact SeqAt.EqAt.str_none a t'
  | bl b=>cases rx;exact SeqAt.EqAt.str_bool a t' b
  | int b=>obtain⟨t,rfl⟩:=rx;exact SeqAt.EqAt.str_int a t' b t
  | str b=>obtain⟨t,rfl⟩:=rx;exact SeqAt.EqAt.str_str a t' b t
  | _=>exact absurd (show false=true from fx) Bool.false_ne_true
 | _=>exact absurd (show false=true from fy) Bool.false_ne_true
theorem ZdD:Zb5 X (.type "tuple") (fun xs H Q=>∃p ys,xs=[.ref p]∧((SqL X.K H p ys∧∀l,H l=none→Q (.ref l) (upd H l (.tup ys)))∨(SqT X.K H p ys∧Q (.ref p) H))):=by
 intro pins s σ H xs us Q I r h
 obtain⟨p,ys,rfl,h⟩:=h
 obtain⟨u,rfl,rx⟩:=vals1 r
 cases rx
 rcases h with⟨hq,q⟩|⟨hq,q⟩
 ·obtain⟨its,r',pl,hz⟩:=I.list hq
  have hlen:=r'.length
  refine call_tuple_list pl.isList (fun h' kp=>?_) (by simp only[List.size_toArray]<;>omega)
  have I1:Inv X pins σ H { s with heap:=h' }:=I.kept (t':=s.toks) kp
  have I2:Inv X pins σ (upd H h'.objs.size (.tup ys)) { s with heap:=h'.push { cls:=.type "tuple",data:=.seq its.toArray } }:=
   I1.laid (t':=s.toks) (fun b o e=>Heap.get?_push_of_some _ e) (Nat.le_refl _) (show ObjOk X.prog X.w _ _ _ (.tup ys) from⟨hz,its,r',IsTup.new _ _⟩)
  exact⟨.ref h'.objs.size,_,I2,rfl,q _ (I1.hok.fresh (Nat.le_refl _))⟩
 ·obtain⟨its,r',pl,hz⟩:=I.tuple hq
  exact call_tuple_same pl ⟨.ref p,H,I,rfl,q⟩
def tyV (K:PySem.W.Frag)(T:String)(x:V)(H:Hp):Prop:=match x with
 | .str _=>T="str"
 | .int _=>T="int"
 | .ref p=>(T="list"∧∃xs,SqL K H p xs)∨(T="tuple"∧∃o,K.lookup p=some o∧o.cls=.type "tuple"∧o.dict=none) ∨
   (T="dict"∧((∃kvs,H p=some (.dK kvs))∨∃kvs,H p=some (.dT kvs)))∨(T="set"∧∃S n,H p=some (.set S n))
 | _=>False
theorem ZjO {pins:List (Addr×Obj)}{σ:St}{H:Hp}{s:Shared}{T:String}{x:V}{v:Value}(I:Inv X pins σ H s)(r:RelV x v)(ty:tyV X.K T x H):
  s.TypeIs v T∧∀a,v=.ref a→∃ob,s.heap.get? a=some ob∧ob.dict=none:=by
 cases x with
 | str z=>
  obtain⟨t,rfl⟩:=r
  cases (show T="str" from ty)
  exact⟨typeIs_str s z t,fun _ e=>nomatch e⟩
 | int i=>
  obtain⟨t,rfl⟩:=r
  cases (show T="int" from ty)
  exact⟨typeIs_int s i t,fun _ e=>nomatch e⟩
 | ref p=>
  cases r
  rcases ty with⟨rfl,xs,hq⟩|⟨rfl,o,hk,hc,hd⟩|⟨rfl,hk⟩|⟨rfl,S,n,hk⟩
  ·obtain⟨its,_,pl,_⟩:=I.list hq
   refine⟨pl.isList.typeIs,fun a e=>?_⟩
   cases e
   obtain⟨o,n,e,c,hd,_⟩:=pl
   exact⟨o,e,hd⟩
  ·refine⟨⟨o,I.kIn p o hk,hc⟩,fun a e=>?_⟩
   cases e
   exact⟨o,I.kIn _ o hk,hd⟩
  ·have z:∃o,s.heap.get? p=some o∧o.ExactDict:=by
    rcases hk with⟨kvs,hk⟩|⟨kvs,hk⟩
    ·obtain⟨_,_,_,_,o,_,_,e,ex,_⟩:=I.hok p _ hk
     exact⟨o,e,ex⟩
    ·obtain⟨_,_,_,_,o,_,_,e,ex,_⟩:=I.hok p _ hk
     exact⟨o,e,ex⟩
   obtain⟨o,e,ex⟩:=z
   refine⟨⟨o,e,ex.1⟩,fun a e2=>?_⟩
   cases e2
   exact⟨o,e,ex.2.1⟩
  ·obtain⟨o,_,_,_,e,ex,_⟩:=I.hok p _ hk
   refine⟨⟨o,e,ex.1⟩,fun a e2=>?_⟩
   cases e2
   exact⟨o,e,ex.2.1⟩
 | _=>exact False.elim ty
def tBM0 (K:PySem.W.Frag)(T:String)(r:V→List V→Hp→VK→Prop)(to:TE):TE:=fun σ H Q=>to σ H fun x H1=>tyV K T x H1∧r x [] H1 Q
def tBM (K:PySem.W.Frag)(T:String)(r:V→List V→Hp→VK→Prop)(to:TE)(t:TA):TE:=fun σ H Q=>to σ H fun x H1=>tyV K T x H1∧t σ H1 fun xs H2=>r x xs H2 Q
variable {o e:Expr}{es:List Expr}{to:TE}{t:TA}{name:Str}{apos cpos:Pos}{T id:String}{r:V→List V→Hp→VK→Prop}
theorem ZfM (pa:PlainAttrs T) (slot:Slot T name id) (hty:typeOf (.builtin id)=pure (.type "method_descriptor")) (hm:MtR X id r) (ho:PE X o to) (ha:PA X (e::es) t)
  (hbase:attributeBase o name X.env (eval o X.env)=eval o X.env:=by rfl)
  (hfew:((backTo cpos (starEach (e::es) X.env)).all (fun x=>!x.1)&&(backToKw cpos (keywordEach [] X.env)).all (fun x=>x.1.isSome)
   && decide ((e::es).length+([]:List Keyword).length+(if ([]:List Keyword).isEmpty then 0 else 1)<30))=true:=by rfl)
  (hline:(apos.endLine == cpos.line)=true:=by rfl) (hs:starEach (e::es) X.env=(false,eval e X.env)::starEach es X.env:=by rfl) (hplain:(backTo cpos (starEach es X.env)).any (·.1)=false:=by rfl):
  PE X (.Call (.Attribute o name apos) (e::es) [] cpos) (tBM X.K T r to t):=by
 intro pins s σ H Q I h
 refine wpAny_Call_method_late hbase hfew hline rfl (thn (ho pins s σ H _ I h) fun v s1 ⟨x,H1,I1,r1,ty,q1⟩=>?_)
 obtain⟨h1,h2⟩:=ZjO I1 r1 ty
 refine⟨T,id,pa,slot,hty,h1,h2,?_⟩
 have hA:=ha cpos pins s1 σ H1 _ I1 q1
 rw[hs]at hA ⊢
 refine Calls.callWith_builtin (by show (false || (backTo cpos (starEach es X.env)).any (·.1))=false;rw[hplain]<;>rfl) (Calls.evalArgs_plain ?_)
 exact thn hA fun us s2 ⟨vs,H2,I2,r2,q2⟩=>hm pins s2 σ H2 x vs v us Q I2 r1 r2 q2
end
def MtM (X:Cx)(id:String)(r:V→List V→Hp→VK→Prop):Prop:=
 ∀(pins:List (Addr×Obj)) (s:Shared) (σ:St) (H:Hp) (x:V) (xs:List V) (v:Value) (us:List Value) (Q:VK),Inv X pins σ H s→RelV x v→Vals xs us→r x xs H Q →
  wpAny (model X.prog X.w) X.A (call (.builtin id) (v::us)) (EP X pins σ Q) X.xe s
theorem Vals.one:∀ {x:V} {us:List Value},Vals [x] us→∃u,us=[u]∧RelV x u
 | _,_,.cons r .nil=>⟨_,rfl,r⟩
theorem Vals.two:∀ {x y:V} {us:List Value},Vals [x,y] us→∃u v,us=[u,v]∧RelV x u∧RelV y v
 | _,_,_,.cons r (.cons q .nil)=>⟨_,_,rfl,r,q⟩
section
variable {X:Cx}{pins:List (Addr×Obj)}{σ:St}{H:Hp}{s:Shared}{l b:Addr}{xs ys zs:List V}
theorem Inv.lset {its its':List Value}{n:Nat}{f:Array Value→Array Value}{t':Nat}(I:Inv X pins σ H s)(hH:H l=some (.lst xs))
  (e:s.heap.get? l=some { cls:=.type "list",data:=.seq its.toArray n }) (hf:f its.toArray=its'.toArray) (hv:Vals ys its') (hz:ys.length≤sizeLine):
  Inv X pins σ (upd H l (.lst ys)) { s with heap:=s.heap.update l (Obj.mapSeq f),toks:=t' }:=by
 have q:=PySem.IsL.update e f
 rw[hf]at q
 refine I.write (x:=l) (e:=l) (by rw[hH];exact trivial) (.inl rfl) (fun b' u hb hu=>(Heap.get?_update_other s.heap (Obj.mapSeq f) (Ne.symm hb)).trans hu) ⟨_,q⟩ ?_
 exact⟨hz,its',_,hv,q⟩
theorem Inv.lnew {its:List Value}{t':Nat}(I:Inv X pins σ H s)(hv:Vals ys its)(hz:ys.length≤sizeLine):
  Inv X pins σ (upd H s.heap.objs.size (.lst ys)) { s with heap:=s.heap.push { cls:=.type "list",data:=.seq its.toArray },toks:=t' }:=
 I.laid (fun _ _ q=>Heap.get?_push_of_some _ q) (Nat.le_refl _) ⟨hz,its,0,hv,Heap.get?_push_size _ rfl⟩
theorem Inv.fresh (I:Inv X pins σ H s):H s.heap.objs.size=none:=I.hok.fresh (Nat.le_refl _)
theorem Inv.lstM (I:Inv X pins σ H s)(hH:H l=some (.lst xs)):xs.length≤sizeLine∧∃(its:List Value) (n:Nat),Vals xs its∧xs.length=its.length∧s.heap.get? l=some { cls:=.type "list",data:=.seq its.toArray n }:=by
 obtain⟨z,its,n,r,e⟩:=I.hok l _ hH
 exact⟨z,its,n,r,r.length,e⟩
end
section
variable {X:Cx}
def rAppend:V→List V→Hp→VK→Prop:=fun x vs H Q=>∃l xs y,x=.ref l∧vs=[y]∧H l=some (.lst xs)∧xs.length<sizeLine∧Q .non (upd H l (.lst (xs++[y])))
theorem Zbg:MtM X "list.append" rAppend:=by
 intro pins s σ H x vs v us Q I rx rv h
 obtain⟨l,xs,y,rfl,rfl,hH,hz,q⟩:=h
 cases rx
 obtain⟨u,rfl,ru⟩:=rv.one
 obtain⟨z,its,n,r,hl,e⟩:=I.lstM hH
 refine call_meets F.slot_list_append ⟨_,e,rfl⟩ F.entry_list_append (F.args_list_append_2 _ _) (PySem.list_append l its.toArray n u (by rw[List.size_toArray];omega)) ⟨e,?_⟩
 refine⟨.non,_,I.lset (its':=its++[u]) hH e (by simp) (r.append (.cons ru .nil)) ?_,rfl,q⟩
 rw[List.length_append,List.length_singleton]
 omega
def rCat:R2:=fun x y H Q=>∃l b xs zs,x=.ref l∧y=.ref b∧H l=some (.lst xs)∧H b=some (.lst zs)∧xs.length+zs.length≤sizeLine∧∀p,H p=none→Q (.ref p) (upd H p (.lst (xs++zs)))
end
section
variable {prog:Program}{w:World}{A:Around}{E:Value→Shared→Prop}{s:Shared}
end
section
variable {X:Cx}
end
end L2
namespace Att
open PySem PySem.W PySem.Calls PyProof.Rows
theorem ZcC {P:Params}{h:Heap}:∀(ns:List Int) (vs:List Value),WellAll P h vs (ns.map WData.int)→IntsAre vs ns:=by
 intro ns
 induction ns with
 | nil=>
  intro vs w
  rw[List.map_nil]at w
  cases w
  exact .nil
 | cons n ns ih=>
  intro vs w
  rw[List.map_cons]at w
  cases w with
  | cons a b=>
   cases a
   exact .cons _ _ (ih _ b)
theorem Zgn {l:OpenLaw}{n:Nat}(hn:l.most=some n){P:Params}{h:Heap}{args:List WData}{vals:List Value}
  (hpre:l.row.toRowW.claim.pre args=true) (hwl:WellAll P h vals args):
  ∃a vs ns,vals=[Value.ref a]∧args=[WData.list (ns.map WData.int)]∧h.get? a=some { cls:=.type "list",data:=.seq vs.toArray }∧IntsAre vs ns∧ns.length≤n:=by
 have hsh:WShape.hasAll [] args [.list .int]=true:=(pre_splitW hpre).1
 have hc:l.pre.holds [] { args:=args }=true:=(pre_splitW hpre).2
 obtain⟨d,r,rfl,h1,h2⟩:=hasAllW_cons hsh
 obtain rfl:=hasAllW_nil h2
 obtain⟨xs,rfl,h3⟩:=hasW_list h1
 obtain⟨ns,rfl⟩:=items_int h3
 have hlen:ns.length≤n:=by
  unfold OpenLaw.pre at hc
  have h4:(WTm.not (.lt (.lit (.int (n:Int))) (.len (.arg 0)))).holds [] { args:=[.list (ns.map .int)] }=true:=by
   have h4:=(holds_andW hc).1
   rw[hn]at h4
   exact h4
  have h5:=condW_of h4 (w_not (w_lt w_lit (w_len_list (w_arg rfl))))
  rw[List.length_map]at h5
  refine Nat.le_of_not_lt fun q=>?_
  have q':(n:Int)<((ns.length:Nat):Int):=by omega
  first
   | (rw[decide_eq_true q']at h5;exact absurd h5 (by decide))
   | (simp at h5;omega)
 cases hwl with
 | cons w1 w2=>
  cases w2
  cases w1 with
  | list ho hall=>exact⟨_,_,ns,rfl,rfl,ho,ZcC ns _ hall,hlen⟩
theorem Zgx (l:OpenLaw)(args:List WData):l.row.toRowW.claim.post args (.bool true) args=true:=
 postW_of (r:=l.row.toRowW) (X:=(true == true))
  (show WShape.has [] (.bool true) .bool=true by first | rfl | decide | simp[WShape.has,WShape.arms,WShape.armsAll])
  (show (WTm.eq .res (.lit (.bool true))).value [] { args:=args,res:=some (.bool true),after:=args }=some (.bool (true == true)) from w_eq_bool (w_res rfl) w_lit) rfl
theorem attach_call {l:OpenLaw}{n:Nat}{q:Program}{loose:List Str}{XP:(Str→Option Value)→Heap→Prop}{YP:World→Heap→Prop}{d:DefRec}
  (hn:l.most=some n) (hdf:d.params.defaults=[])
  (call:∀(w:World) (s₀ s₁:Shared) (mg mb:Str→Option Value) (fa:Addr) (o:Obj) (pm cd doc:Value) (a:Addr) (vs:List Value) (ns:List Int),
   Ground q loose [] XP w s₀ mg mb s₁.heap→YP w s₁.heap →
   s₁.heap.get? fa=some o→o.data=.func (docDef d.name d.params d.body d.scope pm cd doc)→s₁.heap.CodeRec cd d.name→mg d.name=some (.ref fa) →
   s₁.heap.get? a=some { cls:=.type "list",data:=.seq vs.toArray }→IntsAre vs ns→ns.length≤n→s₁.gens=#[] →
   codeAny (model l.prog w) callerA (.call (.ref fa) ⟨[.ref a],[]⟩) (fun r s'=>r=.ok (.ret (.bool true))∧OldK s₁.heap s'.heap∧s'.os=s₁.os∧AllBare s'.gens) s₁):
  WalkO q loose XP YP l.row.toRowW d [] (fun f vs=>PySem.call f vs):=by
 intro w s₀ s₁ mg mb G Y fa o pm cd doc dV kV ho hd hcd hD hmg hg args vals as hpre hlay hrd hwl hlo
 obtain rfl:dV=.none:=Dflts.none hD hdf
 obtain rfl:kV=.none:=Dflts.noKw hD
 obtain⟨a,vs,ns,rfl,rfl,hobj,hints,hlen⟩:=Zgn hn hpre hwl
 refine enter_call (codeAny_mono (call w s₀ s₁ mg mb fa o pm cd doc a vs ns G Y ho (fd_plain hd) hcd hmg hobj hints hlen hg) fun r s' hq=>?_)
 obtain⟨rfl,h2,h3,h4⟩:=hq
 exact⟨.inl ⟨.bool true,.bool true,[],rfl,fun _=>rfl,.bool true,Zgx l _,fun _=>⟨List.Pairwise.nil,fun _ hm=>(nomatch hm)⟩⟩,h2,h3,h4⟩
section
variable {prog:Program}{w:World}{A:Around}{E:Value→Shared→Prop}{s:Shared}{K:Frag}
def ledger (h:Heap)(L d:Addr):List (Addr×Obj):=(List.range h.objs.size).filterMap fun a=>if a=L∨a=d then none else (h.get? a).map fun o=>(a,o)
end
end Att
namespace L2
open PySem PySem.Spec PyProof.Rows
theorem Zcf:∀ {vs:List Value} {ns:List Int},IntsAre vs ns→Vals (ns.map V.int) vs
 | _,_,.nil=>.nil
 | _,_,.cons n t h=>.cons ⟨t,rfl⟩ (Zcf h)
def Only (H:Hp):Prop:=∀b,H b=none∨∃o xs,H b=some (.frz o (.lst xs))
theorem Zh4 {P:Program}{w:World}{K:PySem.W.Frag}{mg mb:Str→Option Value}{CX:CXT}{k:Nat}{fa a:Addr}{fd:FuncData}{x:Str}{sp:Sp}{s₁:Shared}{vs:List Value}{ns:List Int}
  (KX:K.In s₁.heap) (hns:s₁.heap.Ns mainGlobals mg) (hb:s₁.heap.Ns builtinsNs mb) (hbb:∀x:Str,x≠"__name__"→mb x=bootBuiltins x) (hlim:s₁.heap.NoLimit) (hg:s₁.gens=#[])
  (ha:s₁.heap.get? a=some { cls:=.type "list",data:=.seq vs.toArray }) (hi:IntsAre vs ns) (hl:ns.length≤sizeLine) (hr:Room k callerA)
  (F:∀base:Heap,K.In base→base.Ns mainGlobals mg→FnOk P w K mg base CX k fa fd [x] sp) (hbind:∀(s:Shared) (u:Value),BindsTo s fd ⟨[u],[]⟩ [(x,u)])
  (hsp:∀H:Hp,Only H→SqL K H a (ns.map V.int)→sp [.ref a] H (fun v _=>v=.bl true) fun _ _ _=>False)
  (hCX:∀H e s',CX [] H s₁ (fun _ _ _=>False) e s'→False):
  codeAny (model P w) callerA (.call (.ref fa) ⟨[.ref a],[]⟩) (fun r s'=>r=.ok (.ret (.bool true))∧OldK s₁.heap s'.heap∧s'.os=s₁.os∧AllBare s'.gens) s₁:=by
 have rv:=Zcf hi
 have lenV:=hi.length
 have core:∀H:Hp,Only H→SqL K H a (ns.map V.int)→HOk P w H s₁.heap→(∀b,H b≠none→b=a)→(H a≠none→K.lookup a=none) →
   codeAny (model P w) callerA (.call (.ref fa) ⟨[.ref a],[]⟩) (fun r s'=>r=.ok (.ret (.bool true))∧OldK s₁.heap s'.heap∧s'.os=s₁.os∧AllBare s'.gens) s₁:=by
  intro H hO hS hok hA hK
  have base_of:∀ {b:Addr} {o:Obj},s₁.heap.get? b=some o→H b=none→(hidT s₁.heap H).get? b=some o:=fun e n=>Zfl e n
  have noA:∀ {b:Addr} {o:Obj} {es:Array DictEntry} {ep:Nat},s₁.heap.get? b=some o→o.data=.dict es ep→H b=none:=fun {b o es ep} e d=>by
   cases q:H b with
   | none=>rfl
   | some u=>
    have e':b=a:=hA b (by rw[q];simp)
    subst e'
    rw[ha]at e;cases e
    have d':Data.seq vs.toArray _=Data.dict es ep:=d
    cases d'
  have nsK:∀ {b:Addr} {m:Str→Option Value},s₁.heap.Ns b m→(hidT s₁.heap H).Ns b m:=fun {b m} ⟨o,es,ep,e,d,r⟩=>⟨o,es,ep,base_of e (noA e d),d,r⟩
  have hKb:K.In (hidT s₁.heap H):=fun b o e=>base_of (KX b o e) (by
   cases q:H b with
   | none=>rfl
   | some u=>
    have e':b=a:=hA b (by rw[q];simp)
    subst e'
    rw[hK (by rw[q];simp)]at e;cases e)
  have hM:Mod K mg (hidT s₁.heap H):=⟨hKb,nsK hns,⟨mb,nsK hb,hbb⟩,let ⟨mc,h1,h2⟩:=hlim;⟨mc,nsK h1,h2⟩⟩
  have e0:Env0 P w K mg (hidT s₁.heap H) callerA [] s₁ H:=⟨rfl,hM,fun b o e=>ZgI e,Nat.le_of_eq (Zd9 _ _),trivial,fun b hb=>absurd (show b∈([]:List Addr) from hb) (by simp),hok,.of_eq hg⟩
  refine codeAny_mono ((F _ hKb (nsK hns)).run callerA [] s₁ H ⟨[.ref a],[]⟩ [.ref a] [.ref a] _ _ hr e0 (hbind s₁ (.ref a)) (.cons rfl .nil) (hsp H hO hS)) fun r s' h=>?_
  cases r with
  | error e=>exact(hCX H e s' h).elim
  | ok fl=>
   cases fl with
   | next=>exact False.elim h
   | brk=>exact False.elim h
   | cont=>exact False.elim h
   | ret u=>
    obtain⟨v,H',os,bare,un,hok',r',q⟩:=h
    have q':v=.bl true:=q
    subst q'
    obtain rfl:u=Value.bool true:=r'
    refine⟨rfl,OldK.of_keep fun b o e=>?_,os,bare⟩
    cases q:H b with
    | none=>exact un.keep b o e q (by intro z;exact absurd (show b∈([]:List Addr) from z) (by simp)) (by simp)
    | some u=>
     rcases hO b with z | ⟨ob,xs,z⟩
     ·rw[q]at z;cases z
     ·have z2:=un.frzs b ob _ z
      obtain⟨e1,_⟩:=hok b _ z
      obtain⟨e2,_⟩:=hok' b _ z2
      rw[e]at e1;cases e1
      exact e2
 cases hk:K.lookup a with
 | some o=>
  have e:=KX a o hk
  rw[ha]at e
  cases e
  refine core (fun _=>none) (fun _=>.inl rfl) (.inr ⟨_,vs.toArray,_,hk,rfl,rfl,rfl,by rw[List.size_toArray,lenV];exact hl,by simpa using rv⟩) (fun b u z=>by have z':(none:Option HO)=some u:=z;cases z') (fun b z=>absurd rfl z) fun z=>absurd rfl z
 | none=>
  refine core (fun b=>if b=a then some (.frz { cls:=.type "list",data:=.seq vs.toArray } (.lst (ns.map V.int))) else none) (fun b=>?_) (.inl (.inr ⟨{ cls:=.type "list",data:=.seq vs.toArray },if_pos rfl⟩)) (fun b u z=>?_) (fun b z=>?_) fun _=>hk
  ·by_cases hb:b=a
   ·exact .inr ⟨_,_,if_pos hb⟩
   ·exact .inl (if_neg hb)
  ·by_cases hb:b=a
   ·have z':=(if_pos hb).symm.trans z
    cases z'
    subst hb
    exact⟨ha,by rw[List.length_map];exact hl,vs,_,rv,ha⟩
   ·have z':=(if_neg hb).symm.trans z
    cases z'
  ·by_cases hb:b=a
   ·exact hb
   ·exact absurd (if_neg hb) z
end L2
namespace L2
open PySem PySem.Spec PyProof.Rows
abbrev KOf {K:PySem.W.Frag}{h:Heap}(_:K.In h):PySem.W.Frag:=K
theorem Zlj {l:PySem.W.OpenLaw}{n k:Nat}{q:Program}{loose:List Str}{XP:(Str→Option Value)→Heap→Prop}{YP:World→Heap→Prop}{d:DefRec}{K:Params→PySem.W.Frag}{CX:World→CXT}{sp:World→Sp}{x:Str}
  (hn:l.most=some n) (hn2:n≤sizeLine) (hdf:d.params.defaults=[]) (hr:Room k callerA)
  (hY:∀(w:World) (h:Heap),YP w h→(K w.params).In h)
  (F:∀(w:World) (mg:Str→Option Value) (fa:Addr) (h:Heap),(K w.params).In h→h.Ns mainGlobals mg→mg d.name=some (.ref fa) →
   ∃fd:FuncData,(∀(s:Shared) (u:Value),BindsTo s fd ⟨[u],[]⟩ [(x,u)]) ∧
    ∀base:Heap,(K w.params).In base→base.Ns mainGlobals mg→FnOk l.prog w (K w.params) mg base (CX w) k fa fd [x] (sp w))
  (hsp:∀(w:World) (H:Hp) (a:Addr) (ns:List Int),ns.length≤n→Only H→SqL (K w.params) H a (ns.map V.int)→sp w [.ref a] H (fun v _=>v=.bl true) fun _ _ _=>False)
  (hCX:∀(w:World) (H:Hp) (s:Shared) (e:Value) (s':Shared),CX w [] H s (fun _ _ _=>False) e s'→False):
  PySem.W.WalkO q loose XP YP l.row.toRowW d [] (fun f vs=>PySem.call f vs):=by
 refine Att.attach_call hn hdf fun w s₀ s₁ mg mb fa o pm cd doc a vs ns G Y ho hd hcd hmg hobj hints hlen hg=>?_
 have KX:=hY w _ Y
 obtain⟨fd,hb,hF⟩:=F w mg fa _ KX G.T.g hmg
 exact Zh4 KX G.T.g G.T.b G.T.builtins G.T.nolimit hg hobj hints (Nat.le_trans hlen hn2) hr hF hb (fun H hO hS=>hsp w H a ns hlen hO hS) fun H e s'=>hCX w H s₁ e s'
def inClass (s:Stmt)(j:Nat):Stmt:=match s with
 | .ClassDef _ _ _ body _ _ _ _ _ _ _=>body.getD j (.Pass ⟨0,0,0,0⟩)
 | _=>.Pass ⟨0,0,0,0⟩
def Zby (s:Stmt):Arguments:=match s with
 | .FunctionDef _ a _ _ _ _ _ _ _ _=>a
 | _=>{ posonlyargs:=[],args:=[],vararg:=none,kwonlyargs:=[],kw_defaults:=[],kwarg:=none,defaults:=[] }
def Za9 (s:Stmt):List Stmt:=match s with
 | .FunctionDef _ _ b _ _ _ _ _ _ _=>b
 | _=>[]
def Zai (s:Stmt):Scope:=match s with
 | .FunctionDef _ _ _ _ _ _ sc _ _ _=>sc
 | _=>{ kind:=.function,names:=[],isGenerator:=false,isCoroutine:=false }
abbrev CX0:CXT:=fun _ _ _ _ _ _=>False
abbrev E0:XK:=fun _ _ _=>False
theorem Zau {X:Cx}:ZcS CX0 X E0:=fun _ _ _ _ _ _ _ h=>h.elim
structure Fun (K:PySem.W.Frag)(x qual:Str)(st:Stmt)(f:Addr)(fd:FuncData):Prop where
 ex:∃(oc:Value) (od:Option Addr) (kV doc pm:Value) (an:Option Addr) (cdv ct:Value) (osl:Array (Option Value)),
  fd=PySem.W.fnOf x qual (Zby st) (Za9 st) (Zai st) .none kV doc pm an cdv ct∧K.lookup f=some ⟨oc,od,.func fd,osl⟩∧PySem.W.codeIn K cdv qual=true
 kp:PySem.W.keepIn K (.ref f)=true
section
variable {P:Program}{w:World}{K:PySem.W.Frag}{mg:Str→Option Value}{base:Heap}
theorem Fun.ok {x qual:Str}{st:Stmt}{f:Addr}{fd:FuncData}{N ps:List Str}{k:Nat}{sp:Sp}(F:Fun K x qual st f fd)(S:FnScope N ps (Zai st))(len:∀vs H Q E,sp vs H Q E→vs.length=ps.length)
  (hbody:∀(cdv:Value) (A:Around) (outer:List Env) (s:Shared) (H:Hp) (vs:List V) (Q:VK) (E:XK),Room k (A.deeper (envOfC qual (Zai st) s.heap.objs.size f cdv))→sp vs H Q E →
   ∃t,PSs (cxOf CX0 P w K mg base N qual (Zai st) f cdv A outer s H E).nox (Za9 st) t∧t { nx:=fun _ H'=>Q .non H',rt:=Q } (start N vs) H):FnOk P w K mg base CX0 (k+1) f fd ps sp:=by
 obtain⟨oc,od,kV,doc,pm,an,cdv,ct,osl,rfl,lk,hcd⟩:=F.ex
 refine Zk4 lk hcd S len fun A outer s H vs Q E hr hsp=>?_
 obtain⟨t,h,q⟩:=hbody cdv A outer s H vs Q E hr hsp
 exact⟨t,h.nox,q⟩
theorem Fun.binds {x qual:Str}{st:Stmt}{f:Addr}{fd:FuncData}{ps:List Str}(F:Fun K x qual st f fd)
  (h:∀(kV doc pm:Value) (an:Option Addr) (cdv ct:Value) (us:List Value),us.length=ps.length→bindArgs (PySem.W.fnOf x qual (Zby st) (Za9 st) (Zai st) .none kV doc pm an cdv ct) ⟨us,[]⟩=pure (ps.zip us)):Binds K fd ps []:=by
 obtain⟨oc,od,kV,doc,pm,an,cdv,ct,osl,rfl,lk,hcd⟩:=F.ex
 exact .all (h kV doc pm an cdv ct)
theorem ZiD {x qual:Str}{st:Stmt}{f:Addr}{oc:Value}{od an:Option Addr}{osl:Array (Option Value)}{kV doc pm cdv ct:Value}(l:K.lookup f=some ⟨oc,od,.func (PySem.W.fnOf x qual (Zby st) (Za9 st) (Zai st) .none kV doc pm an cdv ct),osl⟩)
  (c:PySem.W.codeIn K cdv qual=true) (k:PySem.W.keepIn K (.ref f)=true):Fun K x qual st f (PySem.W.fnOf x qual (Zby st) (Za9 st) (Zai st) .none kV doc pm an cdv ct):=⟨⟨oc,od,kV,doc,pm,an,cdv,ct,osl,rfl,l,c⟩,k⟩
end
theorem ZaM {A:Around}{k:Nat}(hr:Room k A):A.units+1<cLine:=Nat.lt_of_le_of_lt (Nat.add_le_add_left (by decide:1≤64) _) hr.units
theorem Zcj {n:Nat}(h:n≤1000):n<sizeLine:=Nat.lt_of_le_of_lt h (by decide)
section
variable {X:Cx}
theorem pv (i:Nat) {x:Str} {pos:Pos} (hN:X.N[i]?=some x:=by rfl) (hv:Vis X.env.scope x:=by first | exact Or.inl rfl | exact Or.inr (Or.inl rfl) | exact Or.inr (Or.inr rfl)) (hd:(x == ("__debug__":Str))=false:=by decide)
  (hcd:(x == ("__classdict__":Str))=false:=by decide):PE X (.Name x pos) (tVar i):=Zki hN hv hd hcd
end
theorem iteF {A B:Prop}(h:B):if false=true then A else B:=by
 rw[if_neg Bool.false_ne_true]
 exact h
theorem iteT {A B:Prop}(h:A):if true=true then A else B:=by
 rw[if_pos rfl]
 exact h
theorem ite2 {c A B:Prop}[Decidable c](h1:c→A)(h2:¬c→B):if c then A else B:=by
 by_cases h:c
 ·rw[if_pos h]
  exact h1 h
 ·rw[if_neg h]
  exact h2 h
def Same (H H':Hp):Prop:=∀b o,H b=some o→H' b=some o
theorem Same.refl (H:Hp):Same H H:=fun _ _ h=>h
theorem Same.trans {H H1 H2:Hp}(a:Same H H1)(b:Same H1 H2):Same H H2:=fun c o h=>b c o (a c o h)
theorem Same.free {H H':Hp}(e:Same H H'){l:Addr}(h:H' l=Option.none):H l=Option.none:=by
 cases q:H l with
 | none=>rfl
 | some o=>
  rw[e l o q]at h
  cases h
theorem Same.seq {K:PySem.W.Frag}{H H':Hp}{a:Addr}{xs:List V}(e:Same H H')(h:SqL K H a xs):SqL K H' a xs:=by
 rcases h with (h | ⟨o,h⟩) | h
 ·exact .inl (.inl (e _ _ h))
 ·exact .inl (.inr ⟨o,e _ _ h⟩)
 ·exact .inr h
section
variable {κ:Type}[DecidableEq κ]
def valV (kvs:List (κ×V))(k:κ):Option V:=(kvs.find? fun kv=>decide (kv.1=k)).map (·.2)
def putK (kvs:List (κ×V))(k:κ)(v:V):List (κ×V):=
 if (kvs.any fun kv=>decide (kv.1=k))=true then kvs.map (fun kv=>if kv.1=k then (kv.1,v) else kv) else kvs++[(k,v)]
def Zk8 (kvs:List (κ×V))(k:κ):List (κ×V):=kvs.filter fun kv=>decide (kv.1≠k)
theorem ZaN {p:κ×V}{r:List (κ×V)}{k:κ}(e:p.1=k):valV (p::r) k=some p.2:=by simp[valV,List.find?_cons,e]
theorem ZaO {p:κ×V}{r:List (κ×V)}{k:κ}(e:¬p.1=k):valV (p::r) k=valV r k:=by simp[valV,List.find?_cons,e]
theorem Zbj (k:κ):∀kvs:List (κ×V),(kvs.any fun kv=>decide (kv.1=k))=(valV kvs k).isSome
 | []=>rfl
 | p::r=>by
  rw[List.any_cons]
  by_cases e:p.1=k
  ·simp only[ZaN e,decide_eq_true e,Bool.true_or,Option.isSome_some]
  ·rw[ZaO e,decide_eq_false e,Bool.false_or];exact Zbj k r
theorem ZeY (k j:κ)(y:V):∀kvs:List (κ×V),valV (kvs.map fun kv=>if kv.1=k then (kv.1,y) else kv) j=(valV kvs j).map fun x=>if j=k then y else x
 | []=>rfl
 | p::r=>by
  have ih:=ZeY k j y r
  rw[List.map_cons]
  by_cases h:p.1=k
  ·rw[if_pos h]
   by_cases e:p.1=j
   ·rw[ZaN (p:=(p.1,y)) e,ZaN e,Option.map_some,if_pos (e.symm.trans h)]
   ·rw[ZaO (p:=(p.1,y)) e,ZaO e,ih]
  ·rw[if_neg h]
   by_cases e:p.1=j
   ·rw[ZaN (p:=p) e,ZaN e,Option.map_some,if_neg (fun z=>h (e.trans z))]
   ·rw[ZaO (p:=p) e,ZaO e,ih]
theorem ZdG (k j:κ)(y:V):∀kvs:List (κ×V),valV kvs k=none→valV (kvs++[(k,y)]) j=if j=k then some y else valV kvs j
 | [],_=>by
  by_cases e:k=j
  ·rw[if_pos e.symm];exact ZaN (p:=(k,y)) e
  ·rw[if_neg (fun z=>e z.symm)];exact ZaO (p:=(k,y)) e
 | p::r,hn=>by
  rw[List.cons_append]
  have hk:¬p.1=k:=fun z=>by rw[ZaN z]at hn;cases hn
  rw[ZaO hk]at hn
  have ih:=ZdG k j y r hn
  by_cases e:p.1=j
  ·rw[ZaN e,ZaN e,if_neg (fun z=>hk (e.trans z))]
  ·rw[ZaO e,ZaO e,ih]
theorem Zdf (kvs:List (κ×V))(k j:κ)(y:V):valV (putK kvs k y) j=if j=k then some y else valV kvs j:=by
 unfold putK
 by_cases a:(kvs.any fun kv=>decide (kv.1=k))=true
 ·rw[if_pos a,ZeY]
  rw[Zbj]at a
  by_cases e:j=k
  ·obtain⟨x,hx⟩:=Option.isSome_iff_exists.mp a
   rw[if_pos e,e,hx,Option.map_some,if_pos rfl]
  ·rw[if_neg e]
   cases valV kvs j with
   | none=>rfl
   | some x=>rw[Option.map_some,if_neg e]
 ·rw[if_neg a]
  refine ZdG k j y kvs ?_
  rw[Zbj]at a
  cases q:valV kvs k with
  | none=>rfl
  | some x=>rw[q]at a;exact(a rfl).elim
theorem ZaV (kvs:List (κ×V))(k:κ)(v:V):(putK kvs k v).length≤kvs.length+1:=by
 unfold putK
 split
 ·rw[List.length_map];omega
 ·rw[List.length_append,List.length_cons,List.length_nil];omega
theorem Zdm {kvs:List (κ×V)}{k:κ}(v:V)(h:valV kvs k=none):putK kvs k v=kvs++[(k,v)]:=by
 unfold putK
 rw[Zbj,h]
 exact if_neg (by decide)
theorem RelO.isSome_eq {o:Option V}{u:Option Value}(r:RelO o u):o.isSome=u.isSome:=by
 cases o with
 | none=>cases u with
  | none=>rfl
  | some _=>exact(show False from r).elim
 | some _=>cases u with
  | none=>exact(show False from r).elim
  | some _=>rfl
theorem RelO.getD {o:Option V}{u:Option Value}{d:V}{d':Value}(r:RelO o u)(rd:RelV d d'):RelV (o.getD d) (u.getD d'):=by
 cases o with
 | none=>cases u with
  | none=>exact rd
  | some _=>exact(show False from r).elim
 | some _=>cases u with
  | none=>exact(show False from r).elim
  | some _=>exact r
theorem KV.val {kvs:List (κ×V)}{vs:List (κ×Value)}(r:KV kvs vs)(k:κ):RelO (valV kvs k) (valueAt vs k):=by
 unfold KV at r
 induction r with
 | nil=>exact True.intro
 | @cons p q ps qs h t ih=>
  obtain⟨h1,h2⟩:=h
  by_cases e:p.1=k
  ·have e':q.1=k:=h1.symm.trans e
   have b:valueAt (q::qs) k=some q.2:=by simp[valueAt,List.find?_cons,e']
   rw[ZaN e,b];exact h2
  ·have e':¬q.1=k:=fun z=>e (h1.trans z)
   have b:valueAt (q::qs) k=valueAt qs k:=by simp[valueAt,List.find?_cons,e']
   rw[ZaO e,b];exact ih
theorem KV.any {kvs:List (κ×V)}{vs:List (κ×Value)}(r:KV kvs vs)(k:κ):(kvs.any fun kv=>decide (kv.1=k))=vs.any fun kv=>decide (kv.1=k):=by
 unfold KV at r
 induction r with
 | nil=>rfl
 | cons h t ih=>rw[List.any_cons,List.any_cons,ih,h.1]
theorem KV.repl {kvs:List (κ×V)}{vs:List (κ×Value)}(r:KV kvs vs)(k:κ){y:V}{u:Value}(ry:RelV y u):
  KV (kvs.map fun kv=>if kv.1=k then (kv.1,y) else kv) (vs.map fun kv=>if kv.1=k then (kv.1,u) else kv):=by
 unfold KV at r ⊢
 induction r with
 | nil=>exact .nil
 | @cons p q ps qs h t ih=>
  rw[List.map_cons,List.map_cons]
  refine .cons ?_ ih
  obtain⟨h1,h2⟩:=h
  by_cases e:p.1=k
  ·rw[if_pos e,if_pos (h1.symm.trans e)];exact⟨h1,ry⟩
  ·rw[if_neg e,if_neg (fun z=>e (h1.trans z))];exact⟨h1,h2⟩
theorem KV.put {kvs:List (κ×V)}{vs:List (κ×Value)}(r:KV kvs vs)(k:κ){y:V}{u:Value}(ry:RelV y u):KV (putK kvs k y) (stored vs k u):=by
 unfold putK stored
 rw[r.any k]
 by_cases e:(vs.any fun kv=>decide (kv.1=k))=true
 ·rw[if_pos e,if_pos e];exact r.repl k ry
 ·rw[if_neg e,if_neg e];exact Paired.snoc r ⟨rfl,ry⟩
theorem KV.drop {kvs:List (κ×V)}{vs:List (κ×Value)}(r:KV kvs vs)(k:κ):KV (Zk8 kvs k) (without vs k):=by
 unfold KV at r ⊢
 unfold Zk8 without
 induction r with
 | nil=>exact .nil
 | @cons p q ps qs h t ih=>
  obtain⟨h1,h2⟩:=h
  rw[List.filter_cons,List.filter_cons]
  by_cases e:p.1=k
  ·have a:¬decide (p.1≠k)=true:=by simp[e]
   have b:¬decide (q.1≠k)=true:=by simp[h1.symm.trans e]
   rw[if_neg a,if_neg b];exact ih
  ·have e':¬q.1=k:=fun z=>e (h1.trans z)
   have a:decide (p.1≠k)=true:=by simp[e]
   have b:decide (q.1≠k)=true:=by simp[e']
   rw[if_pos a,if_pos b];exact .cons ⟨h1,h2⟩ ih
theorem KV.keys {kvs:List (κ×V)}{vs:List (κ×Value)}(r:KV kvs vs):kvs.map (·.1)=vs.map (·.1):=by
 unfold KV at r
 induction r with
 | nil=>rfl
 | cons h t ih=>rw[List.map_cons,List.map_cons,ih,h.1]
theorem KV.length {kvs:List (κ×V)}{vs:List (κ×Value)}(r:KV kvs vs):kvs.length=vs.length:=Paired.length r
end
theorem ZfV {P:Program}{w:World}{k:Key}{u:Value}(r:RelV (kV k) u):(Zap P w).is k u=true:=by
 cases k with
 | inl i=>obtain⟨t,e⟩:=(show ∃t,u=Value.int i t from r);subst e;exact ZeC P w i t
 | inr x=>obtain⟨t,e⟩:=(show ∃t,u=Value.str x t from r);subst e;exact Zct P w x t
theorem Zd5 {P:Program}{w:World}:∀ {ks:List Key} {us:List Value},Vals (ks.map kV) us→ItemsAre (Zap P w) ks us
 | [],_,r=>by rw[List.map_nil]at r;cases r;exact .nil
 | k::ks,_,r=>by
  rw[List.map_cons]at r
  cases r with
  | cons h t=>exact .cons (ZfV h) (Zd5 t)
abbrev KT (H:Hp):List (List Key×V)→List (List Key×Addr×Value)→Prop:=Paired fun p q=>p.1=q.1∧H q.2.1=some (.tup (p.1.map kV))∧RelV p.2 q.2.2
theorem KT.val {H:Hp}{kvs:List (List Key×V)}{xs:List (List Key×Addr×Value)}(r:KT H kvs xs)(k:List Key):RelO (valV kvs k) ((atKey xs k).map (·.2)):=by
 induction r with
 | nil=>exact True.intro
 | @cons p q ps qs h t ih=>
  obtain⟨h1,_,h2⟩:=h
  by_cases e:p.1=k
  ·have e':q.1=k:=h1.symm.trans e
   have b:atKey (q::qs) k=some q.2:=by simp[atKey,List.find?_cons,e']
   rw[ZaN e,b];exact h2
  ·have e':¬q.1=k:=fun z=>e (h1.trans z)
   have b:atKey (q::qs) k=atKey qs k:=by simp[atKey,List.find?_cons,e']
   rw[ZaO e,b];exact ih
theorem KT.repl {H:Hp}{kvs:List (List Key×V)}{xs:List (List Key×Addr×Value)}(r:KT H kvs xs)(k:List Key){y:V}{u:Value}(ry:RelV y u):
  KT H (kvs.map fun kv=>if kv.1=k then (kv.1,y) else kv) (xs.map (putAt k u)):=by
 induction r with
 | nil=>exact .nil
 | @cons p q ps qs h t ih=>
  rw[List.map_cons,List.map_cons]
  refine .cons ?_ ih
  obtain⟨h1,h2,h3⟩:=h
  unfold putAt
  by_cases e:p.1=k
  ·rw[if_pos e,if_pos (h1.symm.trans e)];exact⟨h1,h2,ry⟩
  ·rw[if_neg e,if_neg (fun z=>e (h1.trans z))];exact⟨h1,h2,h3⟩
theorem KT.put {H:Hp}{kvs:List (List Key×V)}{xs:List (List Key×Addr×Value)}(r:KT H kvs xs)(k:List Key){b:Addr}{y:V}{u:Value}(hb:H b=some (.tup (k.map kV)))(ry:RelV y u):
  KT H (putK kvs k y) (storedH xs k b u):=by
 have e:(kvs.any fun kv=>decide (kv.1=k))=(atKey xs k).isSome:=by
  rw[Zbj,(r.val k).isSome_eq,Option.isSome_map]
 unfold putK storedH
 rw[e]
 by_cases q:(atKey xs k).isSome=true
 ·rw[if_pos q,if_pos q];exact r.repl k ry
 ·rw[if_neg q,if_neg q];exact Paired.snoc r ⟨rfl,hb,ry⟩
theorem KT.keeps {H H':Hp}{kvs:List (List Key×V)}{xs:List (List Key×Addr×Value)}(r:KT H kvs xs)(ht:∀b ys,H b=some (.tup ys)→H' b=some (.tup ys)):KT H' kvs xs:=
 Paired.mapP r fun _ _ z=>⟨z.1,ht _ _ z.2.1,z.2.2⟩
section
variable {P:Program}{w:World}{H:Hp}{h:Heap}{a:Addr}
theorem Zkb {u:HO}(ok:HOk P w H h)(e:Rd H a u):ObjOk P w H h a u:=e.ok ok
theorem Zf1 {kvs:List (Key×V)}(ok:HOk P w H h)(e:Rd H a (.dK kvs)):kvs.length≤sizeLine∧(a == sysModules)=false∧∃vs,KV kvs vs∧h.DictOf (Zap P w) a vs:=
 show ObjOk P w H h a (.dK kvs) from Zkb ok e
theorem Zjy {kvs:List (Key×V)}(ok:HOk P w H h)(e:H a=some (.dK kvs)):kvs.length≤sizeLine∧(a == sysModules)=false∧∃vs,KV kvs vs∧h.DictOf (Zap P w) a vs:=Zf1 ok (.inl e)
theorem ZcA {ks:List Key}(ok:HOk P w H h)(e:H a=some (.tup (ks.map kV))):(tupleKind (Zap P w)).is h ks a:=by
 obtain⟨_,its,r,o,h1,h2,n,h3⟩:=(show ObjOk P w H h a (.tup (ks.map kV)) from ok a _ e)
 exact⟨o,its.toArray,n,h1,h2,h3,by simpa using Zd5 r⟩
theorem Zf0 {kvs:List (List Key×V)}(ok:HOk P w H h)(e:Rd H a (.dT kvs)):kvs.length≤sizeLine∧(a == sysModules)=false ∧
  ∃xs,KT H kvs xs∧h.DictOfH (tupleKind (Zap P w)) a xs:=by
 obtain⟨z,y,xs,r,o,es,ep,h1,h2,h3,h4,h5⟩:=(show ObjOk P w H h a (.dT kvs) from Zkb ok e)
 refine⟨z,y,xs,r,o,es,ep,h1,h2,h3,h4,fun x hx=>?_,h5⟩
 have all:∀ {l:List (List Key×V)} {m:List (List Key×Addr×Value)},KT H l m→∀x∈m,(tupleKind (Zap P w)).is h x.1 x.2.1:=by
  intro l m q
  induction q with
  | nil=>intro x hx;exact nomatch hx
  | @cons p q ps qs hq t ih=>
   intro x hx
   rcases List.mem_cons.mp hx with e | hx
   ·subst e
    exact ZcA ok (by rw[←hq.1];exact hq.2.1)
   ·exact ih x hx
 exact all r x hx
theorem Zif {kvs:List (List Key×V)}(ok:HOk P w H h)(e:H a=some (.dT kvs)):kvs.length≤sizeLine∧(a == sysModules)=false ∧
  ∃xs,KT H kvs xs∧h.DictOfH (tupleKind (Zap P w)) a xs:=Zf0 ok (.inl e)
end
def DGet (H:Hp)(a:Addr)(y:V)(r:Option V):Prop:=
 (∃kvs k,Rd H a (.dK kvs)∧y=kV k∧r=valV kvs k)∨∃kvs k b,Rd H a (.dT kvs)∧y=.ref b∧H b=some (.tup (k.map kV))∧r=valV kvs k
def DPut (H:Hp)(a:Addr)(y v:V)(H':Hp):Prop:=
 (∃kvs k,H a=some (.dK kvs)∧y=kV k∧kvs.length<sizeLine∧H'=upd H a (.dK (putK kvs k v))) ∨
 ∃kvs k b,H a=some (.dT kvs)∧y=.ref b∧H b=some (.tup (k.map kV))∧kvs.length<sizeLine∧H'=upd H a (.dT (putK kvs k v))
theorem DGet.k {H:Hp}{a:Addr}{kvs:List (Key×V)}{k:Key}(e:H a=some (.dK kvs)):DGet H a (kV k) (valV kvs k):=.inl ⟨kvs,k,.inl e,rfl,rfl⟩
theorem DGet.t {H:Hp}{a b:Addr}{kvs:List (List Key×V)}{k:List Key}(e:H a=some (.dT kvs))(eb:H b=some (.tup (k.map kV))):DGet H a (.ref b) (valV kvs k):=.inr ⟨kvs,k,b,.inl e,rfl,eb,rfl⟩
theorem DPut.k {H:Hp}{a:Addr}{kvs:List (Key×V)}{k:Key}{v:V}(e:H a=some (.dK kvs))(hl:kvs.length<sizeLine):DPut H a (kV k) v (upd H a (.dK (putK kvs k v))):=.inl ⟨kvs,k,e,rfl,hl,rfl⟩
theorem DPut.t {H:Hp}{a b:Addr}{kvs:List (List Key×V)}{k:List Key}{v:V}(e:H a=some (.dT kvs))(eb:H b=some (.tup (k.map kV)))(hl:kvs.length<sizeLine):
  DPut H a (.ref b) v (upd H a (.dT (putK kvs k v))):=.inr ⟨kvs,k,b,e,rfl,eb,hl,rfl⟩
section
variable {X:Cx}{pins:List (Addr×Obj)}{σ:St}{H:Hp}{s:Shared}{a:Addr}{y v:V}{u r:Value}{o:Option V}{A:Around}{E:Value→Shared→Prop}
theorem Inv.big (I:Inv X pins σ H s):sysModules<s.heap.objs.size:=by
 have h:mainGlobals<s.heap.objs.size:=(I.mod.glob.keeps I.bk).lt
 exact Nat.lt_trans (by decide) h
theorem Zhk {Q:Value→Shared→Prop}(hu:A.units+1<cLine)(I:Inv X pins σ H s)(g:DGet H a y (some v))(ry:RelV y u)(h:∀w' s',Inv X pins σ H s'→RelV v w'→Q w' s'):
  wpAny (model X.prog X.w) A (getItem (.ref a) u) Q E s:=by
 rcases g with⟨kvs,k,e,ey,l⟩|⟨kvs,k,b,e,ey,eb,l⟩
 ·subst ey
  obtain⟨z,hd,vs,rel,dd⟩:=Zf1 I.hok e
  obtain⟨w',hw,rw'⟩:=RelO.some_of (v:=v) (o:=valueAt vs k) (by rw[l];exact rel.val k)
  exact wpAny_getItem_of (ZfV ry) dd.mapOf hw (h w' _ (I.tok _) rw')
 ·subst ey
  cases (show u=Value.ref b from ry)
  obtain⟨z,hd,xs,rel,dd⟩:=Zf0 I.hok e
  obtain⟨w',hw,rw'⟩:=RelO.some_of (v:=v) (o:=(atKey xs k).map (·.2)) (by rw[l];exact rel.val k)
  obtain⟨p,hp,hp2⟩:=Option.map_eq_some_iff.mp hw
  refine wpAny_getItem_heap (tupleKind_room_in1 hu) (ZcA I.hok eb) dd hp ?_
  rw[hp2]
  exact h w' _ (I.tok _) rw'
theorem ZjA {Q:Value→Shared→Prop}(hu:A.units+1<cLine)(I:Inv X pins σ H s)(g:DGet H a y o)(ry:RelV y u)(h:∀s',Inv X pins σ H s'→Q (.bool (!o.isSome)) s'):
  wpAny (model X.prog X.w) A (compareOp .NotIn u (.ref a)) Q E s:=by
 rcases g with⟨kvs,k,e,ey,l⟩|⟨kvs,k,b,e,ey,eb,l⟩
 ·subst ey
  obtain⟨z,hd,vs,rel,dd⟩:=Zf1 I.hok e
  refine wpAny_notIn_of (ZfV ry) hd dd.mapOf ?_
  rw[←(rel.val k).isSome_eq,←l]
  exact h _ (I.tok _)
 ·subst ey
  cases (show u=Value.ref b from ry)
  obtain⟨z,hd,xs,rel,dd⟩:=Zf0 I.hok e
  refine wpAny_notIn_heap (tupleKind_room_in1 hu) (ZcA I.hok eb) hd dd ?_
  have q:=(rel.val k).isSome_eq
  rw[Option.isSome_map]at q
  rw[←q,←l]
  exact h _ (I.tok _)
theorem ZcK {h':Heap}{t':Nat}{ob:HO}(I:Inv X pins σ H s)(mu:Mut (H a))(hs:Heap.SameBut a s.heap h')(he:∃q,h'.get? a=some q)(new:ObjOk X.prog X.w (upd H a ob) h' a ob):
  Inv X pins σ (upd H a ob) { s with heap:=h',toks:=t' }:=
 I.write (x:=a) (e:=a) mu (.inl rfl) (fun b q hb z=>(hs.2 b hb).trans z) he new
theorem ZiG {P:Program}{w:World}{H':Hp}{h':Heap}{kvs:List (Key×V)}{vs:List (Key×Value)}(z:kvs.length≤sizeLine)(hd:(a == sysModules)=false)(rel:KV kvs vs)(dd:h'.DictOf (Zap P w) a vs):
  ObjOk P w H' h' a (.dK kvs):=⟨z,hd,vs,rel,dd⟩
theorem Zhj {H':Hp}{Q:Unit→Shared→Prop}(hu:A.units+1<cLine)(I:Inv X pins σ H s)(g:DPut H a y v H')(ry:RelV y u)(rv:RelV v r)(h:∀s',Inv X pins σ H' s'→Q () s'):
  wpAny (model X.prog X.w) A (setItem (.ref a) u r) Q E s:=by
 rcases g with⟨kvs,k,e,ey,l,eH⟩|⟨kvs,k,b,e,ey,eb,l,eH⟩
 ·subst ey eH
  obtain⟨z,hd,vs,rel,dd⟩:=Zjy I.hok e
  have hz:vs.length≤sizeLine:=by rw[←rel.length];exact z
  have hl:(putK kvs k v).length≤sizeLine:=by have:=ZaV kvs k v;omega
  refine wpAny_setItem_pairs (hsz:=hz) (ZfV ry) dd fun h' dd' hs=>h _ ?_
  have he:∃q,h'.get? a=some q:=let ⟨q,_,_,hq,_⟩:=dd';⟨q,hq⟩
  exact ZcK I (by rw[e];exact True.intro) hs he (ZiG hl hd (rel.put k rv) dd')
 ·subst ey eH
  cases (show u=Value.ref b from ry)
  obtain⟨z,hd,xs,rel,dd⟩:=Zif I.hok e
  have hz:xs.length≤sizeLine:=by rw[←Paired.length rel];exact z
  have hl:(putK kvs k v).length≤sizeLine:=by have:=ZaV kvs k v;omega
  refine wpAny_setItem_heap (hsz:=hz) (tupleKind_room_in1 hu) (ZcA I.hok eb) dd fun h' dd' hs=>h _ ?_
  obtain⟨q,es,ep,hq,h2,h3,h4,_,h5⟩:=dd'
  refine ZcK I (by rw[e];exact True.intro) hs ⟨q,hq⟩ ⟨hl,hd,_,(rel.put k eb rv).keeps fun c ys ec=>?_,q,es,ep,hq,h2,h3,h4,h5⟩
  rw[Zac (Zjg ec e (fun z=>nomatch z))]
  exact ec
end
section
variable {X:Cx}{pins:List (Addr×Obj)}{σ:St}{H:Hp}{s:Shared}{a:Addr}{kvs:List (Key×V)}{k:Key}{u:Value}{A:Around}{E:Value→Shared→Prop}
end
def NoSl (i:Expr):Prop:=∀ov iv,subscripted i false ov iv=operate [ov,iv] (getItem ov iv)
theorem ZiW {prog:Program}{w:World}{A:Around}{E:Value→Shared→Prop}{s:Shared}{env:Env}{value slice:Expr}{pos:Pos}{T id:String}{Q:Value→Shared→Prop}
  (hl:typeLookup (.type T) "__getitem__"=pure (some (.builtin id))) (hs:NoSl slice)
  (h:wpAny (model prog w) A (eval value env) (fun o s₁=>wpAny (model prog w) A (eval slice env) (fun i s₂=>s₂.TypeIs o T∧wpAny (model prog w) A (getItem o i) Q E s₂) E s₁) E s):
  wpAny (model prog w) A (eval (.Subscript value slice pos) env) Q E s:=by
 refine Subscript_ (wpAny_mono h (fun o s₁ h₁=>wpAny_mono h₁ (fun i s₂ h₂=>?_) fun _ _ x=>x) fun _ _ x=>x)
 obtain⟨hT,h₂⟩:=h₂
 unfold subscriptTail
 refine wpAny_bind ?_
 rw[getitemInPython_of_ne hT.not_modules]
 refine wpAny_bind (wpAny_specialOf hT hl ?_)
 have fin:wpAny (model prog w) A (subscripted slice false o i) (fun r s₃=>wpAny (model prog w) A (letTemporaryGo value o r >>= fun _=>pure r) Q E s₃) E s₂:=by
  rw[hs o i]
  exact wpAny_operating (wpAny_mono h₂ (fun r s₃ h₃=>wpAny_bind (wpAny_letTemporaryGo (wpAny_pure h₃))) fun _ _ x=>x)
 first
  | exact wpAny_pure (wpAny_bind fin)
  | exact wpAny_bind (wpAny_pure (wpAny_bind fin))
  | exact wpAny_bind fin
theorem ZeK {X:Cx}{pins:List (Addr×Obj)}{σ:St}{H:Hp}{s:Shared}{a:Addr}{y:V}{o:Option V}(I:Inv X pins σ H s)(g:DGet H a y o):s.TypeIs (.ref a) "dict":=by
 rcases g with⟨kvs,k,e,_,_⟩|⟨kvs,k,b,e,_,_,_⟩
 ·obtain⟨_,_,vs,_,dd⟩:=Zf1 I.hok e
  exact dd.typeIs
 ·obtain⟨_,_,xs,_,dd⟩:=Zf0 I.hok e
  exact dd.typeIs
def Zj2 (td ty:TE):TE:=fun σ H Q=>td σ H fun x H1=>ty σ H1 fun y H2=>∃a v,x=.ref a∧DGet H2 a y (some v)∧Q v H2
def tDIn (ty td:TE):TE:=fun σ H Q=>ty σ H fun y H1=>td σ H1 fun x H2=>∃a o,x=.ref a∧DGet H2 a y o∧Q (.bl o.isSome) H2
def Zgj (ty td:TE):TE:=fun σ H Q=>ty σ H fun y H1=>td σ H1 fun x H2=>∃a o,x=.ref a∧DGet H2 a y o∧Q (.bl (!o.isSome)) H2
def Zj9 (td ty tv:TE):TS:=fun D σ H=>tv σ H fun v H1=>td σ H1 fun x H2=>ty σ H2 fun y H3=>∃a H4,x=.ref a∧DPut H3 a y v H4∧D.nx σ H4
section
variable {X:Cx}{o i e value:Expr}{pos pos' tpos:Pos}{td ty tv:TE}
theorem Zjd (hu:X.A.units+1<cLine)(ho:PE X o td)(hi:PE X i ty)(hs:NoSl i):PE X (.Subscript o i pos) (Zj2 td ty):=by
 intro pins s σ H Q I h
 refine ZiW PySem.F.slot_dict_getitem.lookup hs (thn (ho pins s σ H _ I h) fun u s1 ⟨x,H1,I1,rx,q1⟩=>thn (hi pins s1 σ H1 _ I1 q1) fun iv s2 ⟨y,H2,I2,ry,a,v,ex,g,q2⟩=>?_)
 subst ex
 obtain rfl:u=Value.ref a:=rx
 exact⟨ZeK I2 g,Zhk hu I2 g ry fun w' s3 I3 rw'=>⟨v,H2,I3,rw',q2⟩⟩
theorem ZgC (hu:X.A.units+1<cLine)(hi:PE X i ty)(ho:PE X o td):PC X .NotIn i o (Zgj ty td):=by
 intro pins s σ H Q I h
 refine thn (hi pins s σ H _ I h) fun iv s1 ⟨y,H1,I1,ry,q1⟩=>thn (ho pins s1 σ H1 _ I1 q1) fun u s2 ⟨x,H2,I2,rx,a,ov,ex,g,q2⟩=>?_
 subst ex
 obtain rfl:u=Value.ref a:=rx
 exact ZjA hu I2 g ry fun s3 I3=>⟨.bl (!ov.isSome),H2,I3,rfl,q2⟩
theorem ZeB (hu:X.A.units+1<cLine)(ho:PE X o td)(hi:PE X i ty)(hv:PE X value tv)(hs:swapsWith value (some (.Subscript o i pos')) pos.line X.env=pure false):
  PS X (.Assign [.Subscript o i pos'] value pos) (Zj9 td ty tv):=by
 intro pins s σ H D I h
 refine wpAny_Assign_Subscript (thn (hv pins s σ H _ I h) fun r s1 ⟨v,H1,I1,rv,q1⟩=>thn (ho pins s1 σ H1 _ I1 q1) fun u s2 ⟨x,H2,I2,rx,q2⟩=>thn (hi pins s2 σ H2 _ I2 q2) fun iv s3 ⟨y,H3,I3,ry,a,H4,ex,g,q3⟩=>?_) hs
 subst ex
 obtain rfl:u=Value.ref a:=rx
 exact Zhj hu I3 g ry rv fun s4 I4=>⟨σ,H4,I4,q3⟩
end
theorem Zfr {P:Program}{w:World}{H:Hp}(h:Heap)(hb:sysModules<h.objs.size):ObjOk P w H (h.push { cls:=.type "dict",data:=.dict #[] }) h.objs.size (.dK []):=
 ⟨Nat.zero_le _,beq_eq_false_iff_ne.mpr (Ne.symm (Nat.ne_of_lt hb)),[],.nil,Heap.DictOf.new h⟩
theorem Zfq {P:Program}{w:World}{H:Hp}(h:Heap)(hb:sysModules<h.objs.size):ObjOk P w H (h.push { cls:=.type "dict",data:=.dict #[] }) h.objs.size (.dT []):=
 ⟨Nat.zero_le _,beq_eq_false_iff_ne.mpr (Ne.symm (Nat.ne_of_lt hb)),[],.nil,_,#[],0,Heap.get?_push_size _ rfl,⟨rfl,rfl,rfl⟩,rfl,rfl,List.nodup_nil⟩
def tDNewK:TE:=fun _ H Q=>∀p,H p=none→Q (.ref p) (upd H p (.dK []))
def tDNewT:TE:=fun _ H Q=>∀p,H p=none→Q (.ref p) (upd H p (.dT []))
section
variable {X:Cx}{pos:Pos}
theorem ZhP:PE X (.Dict [] [] pos) tDNewK:=fun pins s σ H Q I h=>
 wpAny_Dict_empty ⟨.ref s.heap.objs.size,_,I.laid (a:=s.heap.objs.size) (o:=.dK []) (t':=s.toks) (fun _ _ q=>Heap.get?_push_of_some _ q) (Nat.le_refl _) (Zfr s.heap I.big),rfl,h _ (I.hok.fresh (Nat.le_refl _))⟩
theorem Zfa:PE X (.Dict [] [] pos) tDNewT:=fun pins s σ H Q I h=>
 wpAny_Dict_empty ⟨.ref s.heap.objs.size,_,I.laid (a:=s.heap.objs.size) (o:=.dT []) (t':=s.toks) (fun _ _ q=>Heap.get?_push_of_some _ q) (Nat.le_refl _) (Zfq s.heap I.big),rfl,h _ (I.hok.fresh (Nat.le_refl _))⟩
end
def Ze1:List (TE×TE)→St→Hp→(List (V×V)→Hp→Prop)→Prop
 | [],_,H,Q=>Q [] H
 | (tk,tv)::r,σ,H,Q=>tk σ H fun x H1=>tv σ H1 fun y H2=>Ze1 r σ H2 fun ps H3=>Q ((x,y)::ps) H3
abbrev VV:List (V×V)→List (Value×Value)→Prop:=Paired fun p q=>RelV p.1 q.1∧RelV p.2 q.2
def PPs (X:Cx)(pos:Pos)(keys:List (Option Expr))(values:List Expr)(trs:List (TE×TE)):Prop:=
 ∀(pins:List (Addr×Obj)) (s:Shared) (σ:St) (H:Hp) (Q:List (V×V)→Hp→Prop),Inv X pins σ H s→Ze1 trs σ H Q →
  wpAny (model X.prog X.w) X.A (evalPairs (pairTrees keys values X.env pos)) (fun vs s'=>∃ps H',Inv X pins σ H' s'∧VV ps vs∧Q ps H') X.xe s
theorem Zi7 {X:Cx}{pos:Pos}:PPs X pos [] [] []:=fun pins s σ H Q I h=>pairTrees_nil_walk ⟨[],H,I,.nil,h⟩
theorem ZhN {X:Cx}{pos:Pos}{k v:Expr}{ks:List (Option Expr)}{vs:List Expr}{tk tv:TE}{trs:List (TE×TE)}(hk:PE X k tk)(hv:PE X v tv)(hr:PPs X pos ks vs trs):
  PPs X pos (some k::ks) (v::vs) ((tk,tv)::trs):=fun pins s σ H Q I h=>
 pairTrees_cons_walk (thn (hk pins s σ H _ I h) fun u s1 ⟨x,H1,I1,rx,q1⟩=>thn (hv pins s1 σ H1 _ I1 q1) fun w2 s2 ⟨y,H2,I2,ry,q2⟩=>
  thn (hr pins s2 σ H2 _ I2 q2) fun ws s3 ⟨ps,H3,I3,rel,q3⟩=>⟨(x,y)::ps,H3,I3,.cons ⟨rx,ry⟩ rel,q3⟩)
def Zbh (kvs more:List (Key×V)):List (Key×V):=more.foldl (fun acc kv=>putK acc kv.1 kv.2) kvs
theorem KV.merge:∀ {more:List (Key×V)} {rs:List (Key×Value)} {kvs:List (Key×V)} {vs:List (Key×Value)},KV more rs→KV kvs vs→KV (Zbh kvs more) (merged vs rs):=by
 intro more rs kvs vs r
 unfold KV at r
 induction r generalizing kvs vs with
 | nil=>intro q;exact q
 | @cons p q ps qs h t ih=>
  intro r0
  have e:KV (putK kvs p.1 p.2) (stored vs q.1 q.2):=by
   have:=r0.put p.1 h.2
   rw[←h.1];exact this
  exact ih e
theorem Zbn:∀(more kvs:List (Key×V)),(Zbh kvs more).length≤kvs.length+more.length
 | [],kvs=>by show kvs.length≤kvs.length+0;omega
 | p::r,kvs=>by
  have h1:=Zbn r (putK kvs p.1 p.2)
  have h2:=ZaV kvs p.1 p.2
  show (Zbh (putK kvs p.1 p.2) r).length≤_
  rw[List.length_cons];omega
theorem Zde {P:Program}{w:World}:∀ {kvs:List (Key×V)} {ws:List (Value×Value)},VV (kvs.map fun kv=>(kV kv.1,kv.2)) ws→∃rs,Carries (Zap P w) ws rs∧KV kvs rs
 | [],_,r=>by rw[List.map_nil]at r;cases r;exact⟨[],True.intro,.nil⟩
 | p::kvs,_,r=>by
  rw[List.map_cons]at r
  cases r with
  | @cons a b as bs h t=>
   obtain⟨rs,c,q⟩:=Zde (P:=P) (w:=w) t
   obtain⟨b1,b2⟩:=b
   exact⟨(p.1,b2)::rs,⟨ZfV h.1,rfl,c⟩,.cons ⟨rfl,h.2⟩ q⟩
def Zj1 (trs:List (TE×TE)):TE:=fun σ H Q=>∀p,H p=none→Ze1 trs σ (upd H p (.dK [])) fun ps H2=>H2 p=some (.dK [])∧∃kvs:List (Key×V),ps=kvs.map (fun kv=>(kV kv.1,kv.2))∧kvs.length≤15∧Q (.ref p) (upd H2 p (.dK (Zbh [] kvs)))
theorem Zjc {X:Cx}{pos:Pos}{keys:List (Option Expr)}{values:List Expr}{trs:List (TE×TE)}(h:PPs X pos keys values trs)(hall:keys.all (·.isSome)=true)(hl:keys.length=values.length)(h0:keys≠[])
  (h15:keys.length≤15):PE X (.Dict keys values pos) (Zj1 trs):=by
 intro pins s σ H Q I q
 have hn:=I.hok.fresh (Nat.le_refl s.heap.objs.size)
 have I1:=I.laid (a:=s.heap.objs.size) (o:=.dK []) (h':=s.heap.push { cls:=.type "dict",data:=.dict #[] }) (t':=s.toks) (fun _ _ q=>Heap.get?_push_of_some _ q) (Nat.le_refl _) (Zfr s.heap I.big)
 refine wpAny_Dict_walk (knd:=Zap X.prog X.w) hall hl h0 h15 (thn (h pins _ σ _ _ I1 (q _ hn)) fun ws s2 ⟨ps,H2,I2,rel,e,kvs,ep,lk,q2⟩=>?_)
 subst ep
 obtain⟨rs,c,rk⟩:=Zde (P:=X.prog) (w:=X.w) rel
 obtain⟨z,hd,vs0,r0,dd⟩:=Zjy I2.hok e
 cases r0
 refine⟨rs,c,dd,fun h' dd' hs=>⟨.ref s.heap.objs.size,_,?_,rfl,q2⟩⟩
 have hz:(Zbh [] kvs).length≤sizeLine:=by
  have h1:=Zbn kvs []
  rw[List.length_nil]at h1
  rw[sizeLine_eq];omega
 have he:∃q,h'.get? s.heap.objs.size=some q:=let ⟨q,_,_,hq,_⟩:=dd';⟨q,hq⟩
 exact ZcK I2 (by rw[e];exact True.intro) hs he (ZiG hz hd (rk.merge .nil) dd')
structure M1 (X:Cx)(o:Expr)(m:Str)(apos:Pos)(e:Expr)(cpos:Pos):Prop where
 base:attributeBase o m X.env (eval o X.env)=eval o X.env
 few:((backTo cpos (starEach [e] X.env)).all (fun x=>!x.1)&&(backToKw cpos (keywordEach [] X.env)).all (fun x=>x.1.isSome)
  && decide (([e]:List Expr).length+([]:List Keyword).length+(if ([]:List Keyword).isEmpty then 0 else 1)<30))=true
 line:(apos.endLine == cpos.line)=true
 trees:backTo cpos (starEach [e] X.env)=[(false,eval e X.env)]
structure M2 (X:Cx)(o:Expr)(m:Str)(apos:Pos)(e f:Expr)(cpos:Pos):Prop where
 base:attributeBase o m X.env (eval o X.env)=eval o X.env
 few:((backTo cpos (starEach [e,f] X.env)).all (fun x=>!x.1)&&(backToKw cpos (keywordEach [] X.env)).all (fun x=>x.1.isSome)
  && decide (([e,f]:List Expr).length+([]:List Keyword).length+(if ([]:List Keyword).isEmpty then 0 else 1)<30))=true
 line:(apos.endLine == cpos.line)=true
 trees:backTo cpos (starEach [e,f] X.env)=[(false,eval e X.env),(false,eval f X.env)]
def IsD (H:Hp)(a:Addr):Prop:=(∃kvs,Rd H a (.dK kvs))∨∃kvs,Rd H a (.dT kvs)
theorem ZiA {X:Cx}{pins:List (Addr×Obj)}{σ:St}{H:Hp}{s:Shared}{a:Addr}(I:Inv X pins σ H s)(d:IsD H a):
  s.TypeIs (.ref a) "dict"∧(∀b,Value.ref a=.ref b→∃ob,s.heap.get? b=some ob∧ob.dict=none)∧(a == sysModules)=false:=by
 rcases d with⟨kvs,e⟩|⟨kvs,e⟩
 ·obtain⟨_,hd,vs,_,dd⟩:=Zf1 I.hok e
  refine⟨dd.typeIs,fun b q=>?_,hd⟩
  cases q
  obtain⟨ob,_,_,h1,h2,_⟩:=dd
  exact⟨ob,h1,h2.2.1⟩
 ·obtain⟨_,hd,xs,_,dd⟩:=Zf0 I.hok e
  refine⟨dd.typeIs,fun b q=>?_,hd⟩
  cases q
  obtain⟨ob,_,_,h1,h2,_⟩:=dd
  exact⟨ob,h1,h2.2.1⟩
section
variable {X:Cx}{pins:List (Addr×Obj)}{σ:St}{H:Hp}{s:Shared}{a:Addr}{y d:V}{u r:Value}{o:Option V}{A:Around}{E:Value→Shared→Prop}
theorem Zk9 {Q:Value→Shared→Prop}(hu:A.units+1<cLine)(I:Inv X pins σ H s)(g:DGet H a y o)(ry:RelV y u)(h:∀w' s',Inv X pins σ H s'→RelV (o.getD .non) w'→Q w' s'):
  wpAny (model X.prog X.w) A (call (.builtin "dict.get") [.ref a,u]) Q E s:=by
 rcases g with⟨kvs,k,e,ey,l⟩|⟨kvs,k,b,e,ey,eb,l⟩
 ·subst ey
  obtain⟨z,hd,vs,rel,dd⟩:=Zf1 I.hok e
  refine call_meetsIn PySem.F.slot_dict_get dd.typeIs PySem.F.entry_dict_get (PySem.F.args_dict_get_2 _ _) (meets_dict_get (Zap X.prog X.w) a (ZfV ry) hd) ⟨_,dd.mapOf,h _ _ (I.tok _) ?_⟩
  rw[l]
  exact(rel.val k).getD rfl
 ·subst ey
  cases (show u=Value.ref b from ry)
  obtain⟨z,hd,xs,rel,dd⟩:=Zf0 I.hok e
  refine call_meetsIn PySem.F.slot_dict_get dd.typeIs PySem.F.entry_dict_get (PySem.F.args_dict_get_2 _ _) (meetsH_dict_get (tupleKind (Zap X.prog X.w)) a b hd) ⟨tupleKind_room_in1 hu,k,xs,ZcA I.hok eb,dd,h _ _ (I.tok _) ?_⟩
  rw[l]
  exact(rel.val k).getD rfl
end
def Zir (td ty:TE):TE:=fun σ H Q=>td σ H fun x H1=>∃a,x=.ref a∧IsD H1 a∧ty σ H1 fun y H2=>∃o,DGet H2 a y o∧Q (o.getD .non) H2
section
variable {X:Cx}{o e f:Expr}{apos cpos:Pos}{td ty tx:TE}
theorem ZhQ (hu:X.A.units+1<cLine) (ho:PE X o td) (he:PE X e ty) (m:M1 X o "get" apos e cpos):PE X (.Call (.Attribute o "get" apos) [e] [] cpos) (Zir td ty):=by
 intro pins s σ H Q I h
 refine wpAny_Call_method m.base m.few m.line PySem.F.plainAttrs_dict PySem.F.slot_dict_get PySem.F.type_dict_get (thn (ho pins s σ H _ I h) fun u s1 ⟨x,H1,I1,rx,a,ex,d,q1⟩=>?_)
 subst ex
 obtain rfl:u=Value.ref a:=rx
 obtain⟨t1,t2,_⟩:=ZiA I1 d
 refine⟨t1,t2,?_⟩
 rw[m.trees]
 refine Calls.callWith_builtin rfl (Calls.evalArgs_plain (Calls.spliced_cons (thn (he pins s1 σ H1 _ I1 q1) fun iv s2 ⟨y,H2,I2,ry,ov,g,q2⟩=>Calls.spliced_nil ?_)))
 exact Zk9 hu I2 g ry fun w' s3 I3 rw'=>⟨_,H2,I3,rw',q2⟩
end
section
variable {X:Cx}{pins:List (Addr×Obj)}{σ:St}{H:Hp}{s:Shared}{a:Addr}{kvs:List (Key×V)}{A:Around}{E:Value→Shared→Prop}
end
section
variable {X:Cx}{pins:List (Addr×Obj)}{σ:St}{H:Hp}{s:Shared}{a:Addr}{y:V}{u:Value}{A:Around}{E:Value→Shared→Prop}
end
section
variable {X:Cx}
end
section
variable {κ:Type}[DecidableEq κ]
theorem ZeX {kvs:List (κ×V)}{k:κ}(h:valV kvs k=none):¬k∈kvs.map (·.1):=by
 intro m
 obtain⟨p,hp,e⟩:=List.mem_map.mp m
 have q:(kvs.any fun kv=>decide (kv.1=k))=true:=List.any_eq_true.mpr ⟨p,hp,decide_eq_true e⟩
 rw[Zbj,h]at q
 exact absurd q (by simp)
theorem Zdg {kvs:List (κ×V)}{k:κ}{v:V}(h:valV kvs k=some v):k∈kvs.map (·.1):=by
 have q:(kvs.any fun kv=>decide (kv.1=k))=true:=by
  rw[Zbj,h]
  all_goals rfl
 obtain⟨p,hp,e⟩:=List.any_eq_true.mp q
 exact List.mem_map.mpr ⟨p,hp,of_decide_eq_true e⟩
theorem ZgM:∀ {l:List κ} {k:κ},l.Nodup→¬k∈l→(l++[k]).Nodup
 | [],k,_,_=>by simp
 | a::r,k,h,hk=>by
  obtain⟨h1,h2⟩:=List.nodup_cons.mp h
  show (a::(r++[k])).Nodup
  refine List.nodup_cons.mpr ⟨fun m=>?_,ZgM h2 fun m=>hk (List.mem_cons.mpr (Or.inr m))⟩
  rcases List.mem_append.mp m with q | q
  ·exact h1 q
  ·exact hk (List.mem_cons.mpr (Or.inl (List.mem_singleton.mp q).symm))
theorem Zjh {kvs:List (κ×V)}{k:κ}(v:V)(hn:(kvs.map (·.1)).Nodup)(h:valV kvs k=none):((putK kvs k v).map (·.1)).Nodup:=by
 rw[Zdm v h,List.map_append]
 exact ZgM hn (ZeX h)
end
def clOf (cells:List (Str×Addr)):List (Str×NameKind)→List (Str×Addr)→List (Str×Addr)
 | [],acc=>acc
 | (n,k)::r,acc=>if k == NameKind.free then clOf cells r ((n,(cells.lookup n).getD 0)::acc) else clOf cells r acc
theorem ZdB {cells:List (Str×Addr)}:∀(names:List (Str×NameKind)) (acc:List (Str×Addr)) (p:Str×Addr),p∈acc→p∈clOf cells names acc
 | [],_,_,h=>h
 | (n,k)::r,acc,p,h=>by
  unfold clOf
  split
  ·exact ZdB r _ p (List.mem_cons_of_mem _ h)
  ·exact ZdB r acc p h
theorem ZdC {cells:List (Str×Addr)}{x:Str}:∀(names:List (Str×NameKind)) (acc:List (Str×Addr)),(x,NameKind.free)∈names→(x,(cells.lookup x).getD 0)∈clOf cells names acc
 | [],_,h=>by cases h
 | (n,k)::r,acc,h=>by
  unfold clOf
  rcases List.mem_cons.mp h with e | h
  ·have e1:x=n:=congrArg Prod.fst e
   have e2:NameKind.free=k:=congrArg Prod.snd e
   subst e1 e2
   exact ZdB r _ _ List.mem_cons_self
  ·split
   ·exact ZdC r _ h
   ·exact ZdC r _ h
theorem ZeP {cells:List (Str×Addr)}:∀(names:List (Str×NameKind)) (acc:List (Str×Addr)) (p:Str×Addr),p∈clOf cells names acc→p∈acc∨((p.1,NameKind.free)∈names∧p.2=(cells.lookup p.1).getD 0)
 | [],_,_,h=>.inl h
 | (n,k)::r,acc,p,h=>by
  unfold clOf at h
  split at h
  ·rename_i hk
   have hk':k=NameKind.free:=by simpa using hk
   rcases ZeP r _ p h with q | ⟨q,e⟩
   ·rcases List.mem_cons.mp q with q | q
    ·subst q;subst hk';exact .inr ⟨List.mem_cons_self,rfl⟩
    ·exact .inl q
   ·exact .inr ⟨List.mem_cons_of_mem _ q,e⟩
  ·rcases ZeP r _ p h with q | ⟨q,e⟩
   ·exact .inl q
   ·exact .inr ⟨List.mem_cons_of_mem _ q,e⟩
theorem Zdd {sc:Scope}{env:Env}(h:∀y∈sc.names,y.2=NameKind.free→∃c,env.cells.lookup y.1=some c):closureFor sc env=pure (clOf env.cells sc.names []):=by
 have all:∀(names:List (Str×NameKind)) (acc:List (Str×Addr)),(∀y∈names,y.2=NameKind.free→∃c,env.cells.lookup y.1=some c) →
   (forIn names acc fun (y:Str×NameKind) (cs:List (Str×Addr))=>(if (y.2 == NameKind.free)=true then (do let a ←cellOf env y.1;pure (ForInStep.yield ((y.1,a)::cs))) else pure (ForInStep.yield cs):Sem (ForInStep (List (Str×Addr)))))=pure (clOf env.cells names acc):=by
  intro names
  induction names with
  | nil=>intro acc _;rfl
  | cons y r ih=>
   intro acc hy
   obtain⟨n,k⟩:=y
   rw[List.forIn_cons]
   unfold clOf
   by_cases hk:k=NameKind.free
   ·subst hk
    obtain⟨c,hc⟩:=hy (n,NameKind.free) List.mem_cons_self rfl
    have hc':env.cells.lookup n=some c:=hc
    simp only[beq_self_eq_true,if_true,cellOf,hc',pure_bind,Option.getD_some]
    exact ih _ fun z hz=>hy z (List.mem_cons_of_mem _ hz)
   ·have hb:(k == NameKind.free)=false:=by simpa using hk
    simp only[hb,Bool.false_eq_true,if_false,pure_bind]
    exact ih _ fun z hz=>hy z (List.mem_cons_of_mem _ hz)
 have q:=all sc.names [] h
 unfold closureFor
 show (forIn sc.names [] fun (y:Str×NameKind) (cs:List (Str×Addr))=>_) >>= _=_
 first
  | (rw[q];rfl)
  | (refine Eq.trans (congrArg (fun t=>t >>= fun cs=>pure cs) q) ?_;rfl)
structure CmpScope (X:Cx)(sc:Scope):Prop where
 kind:sc.kind=.function
 nocell:∀y∈sc.names,y.2≠NameKind.cell
 loc:∀y∈sc.names,y.2=NameKind.local→sc.names.lookup y.1=some .local
 clos:∀y∈sc.names,y.2=NameKind.free→(X.env.kindOf y.1=some .cell∨X.env.kindOf y.1=some .free)
def pick (ix:List (Option Nat))(σ:St):St:=ix.map fun o=>o.bind fun i=>(σ[i]?).join
def Zg1 (N M:List Str)(sc:Scope)(ix:List (Option Nat)):Bool:=
 ix.length == N.length&&(N.zip ix).all fun p=>match p.2 with | none=>true | some i=>decide (M[i]?=some p.1)&&decide (sc.names.lookup p.1=some NameKind.free)
def bx (X:Cx)(sc:Scope)(N:List Str)(fp:List Addr)(s₀:Shared)(H:Hp)(pn:List (Addr×Obj)):Cx:=
 { X with N:=N,s₀:=s₀,H₀:=H,env:=compEnvC sc (clOf X.env.cells sc.names []) s₀.heap.objs.size X.env,outer:=X.stack,stack:=X.stack,ex:=fp,fn:=fun _=>false,pn:=pn,xe:=fun _ _=>False }
theorem Zcp {sc:Scope}{env:Env}{x:Str}{k:NameKind}(h:(relabel sc env).names.lookup x=some k):(x,k)∈sc.names∨(k=.cell∧(x,NameKind.free)∈sc.names):=by
 have m:=PySem.mem_of_lookup h
 unfold relabel at m
 obtain⟨⟨n,k'⟩,hm,e⟩:=List.mem_map.mp m
 dsimp only at e
 split at e
 ·rename_i hc
  have e1:n=x:=congrArg Prod.fst e
  have e2:NameKind.cell=k:=congrArg Prod.snd e
  have e3:k'=NameKind.free:=by
   rw[Bool.and_eq_true,Bool.and_eq_true]at hc
   simpa using hc.1.1
  subst e1 e2 e3
  exact .inr ⟨rfl,hm⟩
 ·have e1:n=x:=congrArg Prod.fst e
  have e2:k'=k:=congrArg Prod.snd e
  subst e1 e2
  exact .inl hm
theorem Zb7 {env:Env}{x:Str}:∀ {names:List (Str×NameKind)},names.lookup x=some NameKind.free →
  (names.map fun (n,k)=>if (k == NameKind.free&&env.scope.kind == .function&&env.kindOf n == some .cell) then (n,NameKind.cell) else (n,k)).lookup x=some .cell ∨
  (names.map fun (n,k)=>if (k == NameKind.free&&env.scope.kind == .function&&env.kindOf n == some .cell) then (n,NameKind.cell) else (n,k)).lookup x=some .free
 | [],h=>by simp at h
 | (n,k)::r,h=>by
  by_cases hx:x=n
  ·subst hx
   simp only[List.lookup_cons,beq_self_eq_true]at h
   cases h
   simp only[List.map_cons]
   split
   ·left;simp[List.lookup_cons]
   ·right;simp[List.lookup_cons]
  ·have hb:(x == n)=false:=by simpa using hx
   simp only[List.lookup_cons,hb]at h
   have ih:=Zb7 (env:=env) h
   simp only[List.map_cons]
   split
   ·simpa only[List.lookup_cons,hb] using ih
   ·simpa only[List.lookup_cons,hb] using ih
theorem ZbR {α:Type}{x:Str}{c:α}:∀ {l:List (Str×α)},(x,c)∈l→∃c',l.lookup x=some c'
 | [],h=>by cases h
 | (n,d)::r,h=>by
  by_cases hx:x=n
  ·subst hx;exact⟨d,by simp[List.lookup_cons]⟩
  ·have hb:(x == n)=false:=by simpa using hx
   rcases List.mem_cons.mp h with e | h
   ·exact absurd (congrArg Prod.fst e) hx
   ·obtain⟨c',e⟩:=ZbR h
    exact⟨c',by simpa only[List.lookup_cons,hb] using e⟩
section
variable {X:Cx}{pins:List (Addr×Obj)}{σ:St}{H:Hp}{s:Shared}{sc:Scope}{N:List Str}{fp:List Addr}{ix:List (Option Nat)}
theorem Inv.capt (I:Inv X pins σ H s)(S:CmpScope X sc):∀y∈sc.names,y.2=NameKind.free→∃c,X.env.cells.lookup y.1=some c:=fun y hy e=>I.ok.has y.1 (S.clos y hy e)
theorem Inv.clcell (I:Inv X pins σ H s)(S:CmpScope X sc){x:Str}{c:Addr}(h:(clOf X.env.cells sc.names []).lookup x=some c):X.env.cells.lookup x=some c:=by
 rcases ZeP _ _ _ (PySem.mem_of_lookup h) with q | ⟨q,e⟩
 ·cases q
 ·obtain⟨c',hc⟩:=I.capt S _ q rfl
  have hc':X.env.cells.lookup x=some c':=hc
  have e':c=(X.env.cells.lookup x).getD 0:=e
  rw[hc',Option.getD_some]at e'
  rw[e'];exact hc'
theorem Inv.clhas (I:Inv X pins σ H s)(S:CmpScope X sc){x:Str}(h:(x,NameKind.free)∈sc.names):∃c,(clOf X.env.cells sc.names []).lookup x=some c∧X.env.cells.lookup x=some c:=by
 obtain⟨c,e⟩:=ZbR (ZdC (cells:=X.env.cells) sc.names [] h)
 exact⟨c,e,I.clcell S e⟩
theorem Inv.block {h1:Heap}{tk:Nat}{m:Str→Option Value}(I:Inv X pins σ H s)(S:CmpScope X sc)(hix:Zg1 N X.N sc ix=true)(hf:∀b∈fp,FpOk X pins H b∧b<s.heap.objs.size)
  (hk:∀b o,s.heap.get? b=some o→h1.get? b=some o) (hn:h1.Ns s.heap.objs.size m):
  Inv (bx X sc N fp s H (X.pn++pins)) [] (pick ix σ) H { s with heap:=h1,toks:=tk }:=by
 have hC:∀b o,s.heap.get? b=some o→b≠s.heap.objs.size:=fun b o e=>Nat.ne_of_lt (Heap.lt_size e)
 have hcell:∀x c,(clOf X.env.cells sc.names []).lookup x=some c→∃v,s.heap.IsCell c v:=fun x c e=>I.cell x c (I.clcell S e)
 have stk:∀b,b≠X.env.locals→b∉X.fs→b∉frs X.stack:=fun b h1 h2 hb=>by
  rcases List.mem_cons.mp (I.stkSub b hb) with z | z
  ·exact h1 z
  ·exact h2 z
 rw[Zg1,Bool.and_eq_true]at hix
 refine⟨⟨I.ok.mod,S.kind,I.ok.glob,I.ok.blt,Nat.le_refl _,?_,?_,?_,I.ok.hd,I.ok.frames,.inl rfl,?_,I.bs,Nat.le_trans I.ok.bsz I.sz,?_,?_,I.stack,I.stkFree⟩,
  rfl,I.bare,Un.kept hk,⟨m,hn,?_⟩,?_,I.fresh,?_,?_,I.hok.kept hk,?_⟩
 ·intro x y c e1 e2
  exact I.ok.inj x y c (I.clcell S e1) (I.clcell S e2)
 ·intro x hx
  have hx:(relabel sc X.env).names.lookup x=some .cell∨(relabel sc X.env).names.lookup x=some .free:=hx
  have hm:(x,NameKind.free)∈sc.names:=by
   rcases hx with hx | hx
   ·rcases Zcp hx with q | ⟨_,q⟩
    ·exact absurd rfl (S.nocell _ q)
    ·exact q
   ·rcases Zcp hx with q | ⟨q,_⟩
    ·exact q
    ·cases q
  obtain⟨c,e,_⟩:=I.clhas S hm
  exact⟨c,e⟩
 ·intro x c z
  cases z
 ·intro b hb
  obtain⟨f,hlt⟩:=hf b hb
  refine⟨Nat.ne_of_lt hlt,fun x c e=>f.2.2.2.2.1 x c (I.clcell S e)⟩
 ·intro b o e hb
  obtain⟨⟨_,_,_,f3,_⟩,_⟩:=hf b hb
  rcases f3 with z | z
  ·exact I.ok.noex b o e z
  ·exact absurd (Heap.lt_size e) (Nat.not_lt.mpr (Nat.le_trans I.ok.bsz z))
 ·intro b hb
  obtain⟨⟨_,f1,f2,_⟩,_⟩:=hf b hb
  exact stk b f1 f2
 ·intro i x v e1 e2 e3
  have e1:N[i]?=some x:=e1
  have hi:∃j,ix[i]?=some (some j)∧σ[j]?=some (some v):=by
   unfold pick at e2
   rw[List.getElem?_map]at e2
   cases q:ix[i]? with
   | none=>rw[q]at e2;cases e2
   | some o=>
    rw[q]at e2
    cases o with
    | none=>cases e2
    | some j=>
     refine⟨j,rfl,?_⟩
     have e4:(σ[j]?).join=some v:=Option.some.inj e2
     cases q2:σ[j]? with
     | none=>rw[q2]at e4;cases e4
     | some w=>rw[q2]at e4;cases w with
      | none=>cases e4
      | some w=>rw[←e4];rfl
  obtain⟨j,hj,hσ⟩:=hi
  have hz:(x,some j)∈N.zip ix:=by
   have q:(N.zip ix)[i]?=some (x,some j):=by rw[List.getElem?_zip_eq_some];exact⟨e1,hj⟩
   exact List.mem_of_getElem? q
  have hp:=List.all_eq_true.mp hix.2 _ hz
  dsimp only at hp
  rw[Bool.and_eq_true]at hp
  have hM:X.N[j]?=some x:=of_decide_eq_true hp.1
  have hfr:sc.names.lookup x=some NameKind.free:=of_decide_eq_true hp.2
  have hmem:=PySem.mem_of_lookup hfr
  obtain⟨mo,hno,hlo⟩:=I.loc
  have hvis:Vis X.env.scope x:=by
   rcases S.clos _ hmem rfl with z | z
   ·exact .inr (.inl z)
   ·exact .inr (.inr z)
  obtain⟨u,ru,l⟩:=hlo j x v hM hσ hvis
  refine⟨u,ru,.inr ⟨?_,?_⟩⟩
  ·exact Zb7 (env:=X.env) hfr
  ·obtain⟨c,e,e'⟩:=I.clhas S hmem
   refine⟨c,e,?_⟩
   rcases l with⟨k,_⟩|⟨_,c',ec,z⟩
   ·rcases S.clos _ hmem rfl with q | q
    ·rw[k]at q;cases q
    ·rw[k]at q;cases q
   ·rw[e']at ec
    cases ec
    obtain⟨o,ho,hd⟩:=z
    exact⟨o,hk _ _ ho,hd⟩
 ·intro x c e
  obtain⟨v,o,ho,hd⟩:=hcell x c e
  exact⟨v,o,hk _ _ ho,hd⟩
 ·intro x c e
  exact I.freeC x c (I.clcell S e)
 ·intro p hp
  have hp:p∈X.pn++pins:=by
   rcases List.mem_append.mp hp with z | z
   ·exact z
   ·cases z
  obtain⟨e,n,ne,nf,d⟩:=I.pin p hp
  exact⟨hk _ _ e,n,hC _ _ e,stk p.1 ne nf,d⟩
 ·show (pick ix σ).length=N.length
  unfold pick
  rw[List.length_map]
  simpa using hix.1
theorem Inv.unblock {τ:St}{H':Hp}{s':Shared}{h':Heap}(I:Inv X pins σ H s)(hf:∀b∈fp,FpOk X pins H b)(J:Inv (bx X sc N fp s H (X.pn++pins)) [] τ H' s')(hs:Heap.SameBut s.heap.objs.size s'.heap h'):
  Inv X pins σ H' { s' with heap:=h' }:=by
 have nC:∀b o,s.heap.get? b=some o→b≠s.heap.objs.size:=fun b o e=>Nat.ne_of_lt (Heap.lt_size e)
 have hfr:H' s.heap.objs.size=none:=J.free
 have u:Un (frs X.stack) fp H H' s.heap s'.heap:=J.base
 have ok:HOk X.prog X.w H' h':=fun b ob e=>by
  refine(J.hok b ob e).stay (fun c w' hc q=>(hs.2 c ?_).trans q) (fun _ q=>q) fun _ _ q=>q
  rintro rfl
  rcases hc with rfl | hc
  ·rw[hfr]at e;cases e
  ·rw[hfr]at hc;cases hc
 refine I.call' (ch:=fp) J.os ⟨fun b o e n h1 h2=>(hs.2 b (nC b o e)).trans (u.keep b o e n h1 h2),fun b o e n h1 h2=>?_,u.free,fun b o e h2=>?_,u.tups,u.frzs,u.tbls⟩ ok J.bare fun b hb=>?_
 ·obtain⟨sl,q⟩:=u.slot b o e n h1 h2
  exact⟨sl,(hs.2 b (nC b o e)).trans q⟩
 ·obtain⟨o',q⟩:=u.there b o e h2
  exact⟨o',(hs.2 b (nC b o e)).trans q⟩
 ·obtain⟨_,f1,_,f3,f4,f5⟩:=hf b hb
  exact⟨f3,f1,f4,f5⟩
end
def PIfs (X:Cx)(ifs:List Expr)(t:TT):Prop:=
 ∀(pins:List (Addr×Obj)) (s:Shared) (σ:St) (H:Hp) (Q:Bool→Hp→Prop),Inv X pins σ H s→t σ H Q →
  wpAny (model X.prog X.w) X.A (forIn ifs true fun c r=>if r=true then do let ok ←isTrue c X.env (eval c X.env);pure (ForInStep.yield ok) else pure (ForInStep.yield r)) (TP X pins σ Q) X.xe s
def tAll:TT:=fun _ H Q=>Q true H
theorem ZbM {X:Cx}:PIfs X [] tAll:=fun _ _ _ H _ I h=>wpAny_tests_nil ⟨H,I,h⟩
theorem Zca {X:Cx}{c:Expr}{t:TT}(h:PT X c t):PIfs X [c] t:=fun pins s σ H Q I q=>wpAny_tests_one (h pins s σ H Q I q)
theorem Zef {prog:Program}{w:World}{A:Around}{R:Result→Shared→Prop}{s:Shared}{el tgt iter:Expr}{ifs:List Expr}{scp:Scope}{pos:Pos}{it acc:Value}{env:Env}(W:Nat→Shared→Prop)
  (turn:∀n s,W n s→wpAny (model prog w) A (pyNext it) (fun r s₁=>match r with
   | none=>R (.ok .next) s₁
   | some v=>wpAny (model prog w) A (letOwnedTupleGo tgt it v) (fun _ s₁'=>wpAny (model prog w) A (assign tgt env v) (fun _ s₂=>
     wpAny (model prog w) A (forIn ifs true fun c r=>if r=true then do let ok ←isTrue c env (eval c env);pure (ForInStep.yield ok) else pure (ForInStep.yield r)) (fun ok s₃=>
      if ok=true then wpAny (model prog w) A (eval el env) (fun x s₄=>
       wpAny (model prog w) A (call (.builtin "list.append") [acc,x]) (fun _ s₅=>∃m,m<n∧W m s₅) (fun _ _=>False) s₄) (fun _ _=>False) s₃
      else ∃m,m<n∧W m s₃) (fun _ _=>False) s₂) (fun _ _=>False) s₁') (fun _ _=>False) s₁) (fun _ _=>False) s)
  (n:Nat) (h:W n s):codeAny (model prog w) A (.compLoop (.ListComp el [⟨tgt,iter,ifs,0⟩] scp pos) 0 it acc env) R s:=by
 refine codeAny_loop rfl W (fun n s hI=>?_) n h
 show wpAny _ A ((compTurn (.ListComp el [⟨tgt,iter,ifs,0⟩] scp pos) 0 it acc env).onRaise (fun x=>do noteFrame x env;theTreesLotGoes x)) _ _ s
 refine wpAny_noted ?_
 rw[compTurn_list]
 refine wpAny_bind (wpAny_standAt (wpAny_bind (wpAny_mono (turn n s hI) (fun r s1 q1=>?_) fun _ _ z=>z.elim)))
 cases r with
 | none=>exact wpAny_pure q1
 | some v=>
  refine wpAny_bind (wpAny_mono q1 (fun _ s1' q1'=>?_) fun _ _ z=>z.elim)
  refine wpAny_bind (wpAny_mono q1' (fun _ s2 q2=>wpAny_bind (wpAny_mono q2 (fun ok s3 q3=>?_) fun _ _ z=>z.elim)) fun _ _ z=>z.elim)
  cases ok with
  | false=>exact wpAny_pure ⟨rfl,q3⟩
  | true=>exact wpAny_bind (wpAny_bind (wpAny_mono q3 (fun x s4 q4=>wpAny_bind (wpAny_mono q4 (fun _ s5 q5=>wpAny_pure (wpAny_pure ⟨rfl,q5⟩)) fun _ _ z=>z.elim)) fun _ _ z=>z.elim))
def ZiV (ix:List (Option Nat))(wi:TI)(g:TG)(tt:TT)(te:TE):TE:=fun σ H Q=>wi σ H fun J H1=>∀acc,H1 acc=none→∃W:Nat→Nat→St→Hp→Prop,(∃m,W 0 m (pick ix σ) (upd H1 acc (.lst []))) ∧
 ∀i m τ H2,W i m τ H2→(J.stop i H2∧Q (.ref acc) H2)∨(J.go i H2∧∃Nx:St→Hp→Prop,(∀τ' H',Nx τ' H'→∃m',m'<m∧W (i+1) m' τ' H') ∧
  ∀x H3,J.yld i H2 x H3→g x τ H3 fun τ2 H4=>tt τ2 H4 fun b H5=>if b=true then te τ2 H5 fun y H6=>∃ys,H6 acc=some (.lst ys)∧ys.length<sizeLine∧Nx τ2 (upd H6 acc (.lst (ys++[y]))) else Nx τ2 H5)
section
variable {X:Cx}{sc:Scope}{N:List Str}{ix:List (Option Nat)}{elt tg iter:Expr}{ifs:List Expr}{pos:Pos}{wi:TI}{g:TG}{tt:TT}{te:TE}
theorem Zdc {Q:VK}{pins:List (Addr×Obj)}{s:Shared}{σ:St}{H:Hp}{it:Addr}{fp:List Addr}{tn:Nat→Heap→Prop}{J:It}{RR:Value→Addr→Result→Shared→Prop}
  (hc:X.calm=true) (S:CmpScope X sc) (hix:Zg1 N X.N sc ix=true)
  (hg:∀fp s₀ H₀ pn,PG (bx X sc N fp s₀ H₀ pn) tg g) (ht:∀fp s₀ H₀ pn,PIfs (bx X sc N fp s₀ H₀ pn) ifs tt) (he:∀fp s₀ H₀ pn,PE (bx X sc N fp s₀ H₀ pn) elt te)
  (I:Inv X pins σ H s) (T:Turn X.prog X.w X.K tg J fp it tn) (st:tn 0 s.heap) (hf:∀b∈fp,FpOk X pins H b)
  (q:∀acc,H acc=none→∃W:Nat→Nat→St→Hp→Prop,(∃m,W 0 m (pick ix σ) (upd H acc (.lst []))) ∧
   ∀i m τ H2,W i m τ H2→(J.stop i H2∧Q (.ref acc) H2)∨(J.go i H2∧∃Nx:St→Hp→Prop,(∀τ' H',Nx τ' H'→∃m',m'<m∧W (i+1) m' τ' H') ∧
    ∀x H3,J.yld i H2 x H3→g x τ H3 fun τ2 H4=>tt τ2 H4 fun b H5=>if b=true then te τ2 H5 fun y H6=>∃ys,H6 acc=some (.lst ys)∧ys.length<sizeLine∧Nx τ2 (upd H6 acc (.lst (ys++[y]))) else Nx τ2 H5))
  (hR:∀(acc:Addr) (s₃ s':Shared) (τ:St) (H':Hp),Inv X pins σ (upd H acc (.lst [])) s₃→(∀b∈fp,FpOk X pins (upd H acc (.lst [])) b)→Inv (bx X sc N fp s₃ (upd H acc (.lst [])) (X.pn++pins)) [] τ H' s'→Q (.ref acc) H' →
   RR (.ref acc) s₃.heap.objs.size (.ok .next) s'):
  wpAny (model X.prog X.w) X.A (newList []) (fun acc s₃=>wpAny (model X.prog X.w) X.A (newFunctionEnv sc X.env.globals (clOf X.env.cells sc.names []) [] X.env.qual none .none (some X.env)) (fun cenv s₄=>
   codeAny (model X.prog X.w) X.A (.compStart (.ListComp elt [⟨tg,iter,ifs,0⟩] sc pos) 0 (.ref it) acc { cenv with scope:=relabel sc X.env }) (RR acc cenv.locals) s₄) X.xe s₃) X.xe s:=by
 refine wpAny_newObj_type ?_
 have hfr:=I.fresh
 have I3:=I.lnew (its:=[]) (ys:=[]) (t':=s.toks) .nil (Nat.zero_le _)
 have fne:∀b∈fp,b<s.heap.objs.size:=fun b hb=>by
  obtain⟨o,e,_⟩:=T.obj 0 _ st b hb
  exact Heap.lt_size e
 have hf3:∀b∈fp,FpOk X pins (upd H s.heap.objs.size (.lst [])) b:=fun b hb=>by
  obtain⟨f0,f⟩:=hf b hb
  refine⟨?_,f⟩
  rw[Zac (Nat.ne_of_lt (fne b hb))]
  exact f0
 have q3:=q _ hfr
 have st3:tn 0 (s.heap.push { cls:=.type "list",data:=.seq ([]:List Value).toArray }):=T.keep _ _ _ st fun b _ o e=>Heap.get?_push_of_some _ e
 generalize e3:({ s with heap:=s.heap.push { cls:=.type "list",data:=.seq ([]:List Value).toArray },toks:=s.toks }:Shared)=s3 at I3
 have es3:s3.heap=s.heap.push { cls:=.type "list",data:=.seq ([]:List Value).toArray }:=by rw[←e3]
 rw[←es3]at st3
 have hf3':∀b∈fp,FpOk X pins (upd H s.heap.objs.size (.lst [])) b∧b<s3.heap.objs.size:=fun b hb=>⟨hf3 b hb,by rw[es3,Heap.size_push];exact Nat.lt_succ_of_lt (fne b hb)⟩
 refine wpAny_newFunctionEnv S.nocell (by intro y hy;cases hy) (fun h₁ hns₁ hsb₁=>?_) S.kind
 have hk:∀b o,s3.heap.get? b=some o→h₁.get? b=some o:=fun b o e=>hsb₁.extBut b o (Nat.ne_of_lt (Heap.lt_size e)) (Heap.get?_push_of_some _ e)
 have I4:=I3.block (N:=N) (ix:=ix) (tk:=s3.toks+([]:List (Str×Value)).length) S hix hf3' hk hns₁
 have st4:tn 0 h₁:=T.keep _ _ _ st3 fun b _ o e=>hk b o e
 obtain⟨W,⟨m0,w0⟩,turn⟩:=q3
 have statN:∀ {H':Hp},(∀b∈fp,H' b=none)→∀b∈fp,FpOk (bx X sc N fp s3 (upd H s.heap.objs.size (.lst [])) (X.pn++pins)) [] H' b:=fun {H'} hn b hb=>by
  obtain⟨⟨_,f1,f2,f3,f4,f5⟩,hlt⟩:=hf3' b hb
  refine⟨hn b hb,Nat.ne_of_lt hlt,fun z=>?_,.inl hb,fun x c e=>f4 x c (I3.clcell S e),fun p hp=>?_⟩
  ·rcases List.mem_cons.mp (I3.stkSub b z) with z | z
   ·exact f1 z
   ·exact f2 z
  ·refine f5 p ?_
   rcases List.mem_append.mp hp with z | z
   ·exact z
   ·cases z
 have loop:∀s4:Shared,s4={ s3 with heap:=h₁,toks:=s3.toks+([]:List (Str×Value)).length } →
   codeAny (model X.prog X.w) X.A (.compLoop (.ListComp elt [⟨tg,iter,ifs,0⟩] sc pos) 0 (.ref it) (.ref s.heap.objs.size) (compEnvC sc (clOf X.env.cells sc.names []) s3.heap.objs.size X.env)) (RR (.ref s.heap.objs.size) s3.heap.objs.size) s4:=by
  rintro s4 rfl
  refine Zef (fun n s'=>∃i τ H',Inv (bx X sc N fp s3 (upd H s.heap.objs.size (.lst [])) (X.pn++pins)) [] τ H' s'∧tn i s'.heap∧(∀b∈fp,H' b=none)∧W i n τ H') ?_ m0 ⟨0,_,_,I4,st4,fun b hb=>(hf3 b hb).1,w0⟩
  rintro n s5 ⟨i,τ,H5,I5,st5,fr5,w5⟩
  rcases turn i n τ H5 w5 with⟨stop,qn⟩|⟨go,Nx,hN,step⟩
  ·refine thn (T.done (bx X sc N fp s3 (upd H s.heap.objs.size (.lst [])) (X.pn++pins)) rfl rfl rfl hc i [] s5 τ H5 (fun _ _=>False) I5 (statN fr5) st5 stop) fun r s6 ⟨hr,I6⟩=>?_
   subst hr
   exact hR _ _ _ _ _ I3 hf3 I6 qn
  ·refine thn (T.item (bx X sc N fp s3 (upd H s.heap.objs.size (.lst [])) (X.pn++pins)) rfl rfl rfl hc i [] s5 τ H5 (fun _ _=>False) I5 (statN fr5) st5 go) fun r s6 ⟨u,hr,h6⟩=>?_
   subst hr
   refine thn h6 fun _ s7 ⟨x,H7,I7,r7,y7,st7,fr7⟩=>?_
   have I7':=I7.pinned (statN fr7) (T.obj _ _ st7)
   refine thn (hg _ _ _ _ _ s7 τ H7 x u _ I7' r7 (step x H7 y7)) fun _ s8 ⟨τ8,H8,I8,q8⟩=>?_
   have again:∀ {s9:Shared} {τ9:St} {H9:Hp},Inv (bx X sc N fp s3 (upd H s.heap.objs.size (.lst [])) (X.pn++pins)) ([]++ZdT fp s7.heap) τ9 H9 s9→Nx τ9 H9 →
     ∃m,m<n∧∃i τ H',Inv (bx X sc N fp s3 (upd H s.heap.objs.size (.lst [])) (X.pn++pins)) [] τ H' s9∧tn i s9.heap∧(∀b∈fp,H' b=none)∧W i m τ H':=fun {s9 τ9 H9} I9 n9=>by
    obtain⟨m',hm,w9⟩:=hN τ9 H9 n9
    refine⟨m',hm,i+1,τ9,H9,I9.unpinned,T.keep _ _ _ st7 fun b hb o e=>(I9.pin (b,o) (List.mem_append_right _ (List.mem_append_right _ (ZbA hb e)))).1,fun b hb=>?_,w9⟩
    obtain⟨o,e,d⟩:=T.obj _ _ st7 b hb
    exact(I9.pin (b,o) (List.mem_append_right _ (List.mem_append_right _ (ZbA hb e)))).2.1
   refine thn (ht _ _ _ _ _ s8 τ8 H8 _ I8 q8) fun ok s9 ⟨H9,I9,q9⟩=>?_
   cases ok with
   | false=>exact again I9 q9
   | true=>
    rw[if_pos rfl]at q9 ⊢
    refine thn (he _ _ _ _ _ s9 τ8 H9 _ I9 q9) fun yv s10 ⟨y,H10,I10,r10,ys,ha,hz,q10⟩=>?_
    refine thn (Zbg _ s10 τ8 H10 (.ref s.heap.objs.size) [y] (.ref s.heap.objs.size) [yv] (fun v H'=>v=.non∧Nx τ8 H') I10 rfl (.cons r10 .nil) ⟨_,ys,y,rfl,rfl,ha,hz,rfl,q10⟩) fun _ s11 ⟨_,H11,I11,_,_,q11⟩=>?_
    exact again I11 q11
 exact codeAny_compStart_list (loop _ rfl) (T.self _ 0 _ _ _ st4 (loop _ rfl))
theorem Zbv (hc:X.calm=true)(S:CmpScope X sc)(hix:Zg1 N X.N sc ix=true)(hi:PI X tg iter wi)
  (hg:∀fp s₀ H₀ pn,PG (bx X sc N fp s₀ H₀ pn) tg g) (ht:∀fp s₀ H₀ pn,PIfs (bx X sc N fp s₀ H₀ pn) ifs tt) (he:∀fp s₀ H₀ pn,PE (bx X sc N fp s₀ H₀ pn) elt te)
  (hs:∀x,foldedSetIterable iter X.env x=pure x:=by intro _;rfl):PE X (.ListComp elt [⟨tg,iter,ifs,0⟩] sc pos) (ZiV ix wi g tt te):=by
 intro pins s σ H Q I h
 rw[eval_ListComp]
 refine wpAny_comprehension_free (use:=none) rfl hs (Zdd (I.capt S)) S.kind S.loc (thn (hi pins s σ H _ I h) fun v s1 h1=>thn h1 fun itv s2 h2=>?_)
 obtain⟨it,fp,tn,J,H2,e,I2,T,st2,f2,q⟩:=h2
 subst e
 refine Zdc (Q:=Q) (RR:=fun acc C=>compPost (model X.prog X.w) X.A X.xe none (EP X pins σ Q) acc C) hc S hix hg ht he I2 T st2 f2 q ?_
 intro acc s3 s' τ H' I3 hf3 J' qq
 obtain⟨m,hn,_⟩:=J'.loc
 exact⟨m,hn,fun h' hs'=>⟨.ref acc,H',I3.unblock hf3 J' hs',rfl,qq⟩⟩
theorem Zi6 {i:Nat}{x:Str}{px spos:Pos}(hsw:swapsWith (.ListComp elt [⟨tg,iter,ifs,0⟩] sc pos) (some (.Name x px)) spos.line X.env=pure true)
  (hN:X.N.Nodup) (hi':X.N[i]?=some x) (hx:X.env.scope.names.lookup x=some .local) (hc:X.calm=true) (S:CmpScope X sc) (hix:Zg1 N X.N sc ix=true) (hi:PI X tg iter wi)
  (hg:∀fp s₀ H₀ pn,PG (bx X sc N fp s₀ H₀ pn) tg g) (ht:∀fp s₀ H₀ pn,PIfs (bx X sc N fp s₀ H₀ pn) ifs tt) (he:∀fp s₀ H₀ pn,PE (bx X sc N fp s₀ H₀ pn) elt te)
  (hs:∀x,foldedSetIterable iter X.env x=pure x:=by intro _;rfl):PS X (.Assign [.Name x px] (.ListComp elt [⟨tg,iter,ifs,0⟩] sc pos) spos) (tAsg (ZiV ix wi g tt te) (Zb1 i)):=by
 intro pins s σ H D I h
 rw[exec_Assign_Name_used _ _ _ _ hsw]
 refine wpAny_bind (wpAny_standAt (wpAny_bind ?_))
 show wpAny _ X.A (do let _ ←comprehension (.ListComp elt [⟨tg,iter,ifs,0⟩] sc pos) sc X.env _ (newList []) false (eval iter X.env) (some (assign (.Name x px) X.env))) _ _ s
 refine wpAny_bind (wpAny_mono (wpAny_comprehension_free (use:=some (assign (.Name x px) X.env)) (Q:=fun _ s'=>SP X pins D .next s') rfl hs (Zdd (I.capt S)) S.kind S.loc
  (thn (hi pins s σ H _ I h) fun v s1 h1=>thn h1 fun itv s2 h2=>?_)) (fun _ s' hq=>wpAny_pure (wpAny_pure hq)) fun _ _ z=>z)
 obtain⟨it,fp,tn,J,H2,e,I2,T,st2,f2,q⟩:=h2
 subst e
 refine Zdc (Q:=fun y H1=>Zb1 i y σ H1 D.nx) (RR:=fun acc C=>compPost (model X.prog X.w) X.A X.xe (some (assign (.Name x px) X.env)) (fun _ s'=>SP X pins D .next s') acc C) hc S hix hg ht he I2 T st2 f2 q ?_
 intro acc s3 s' τ H' I3 hf3 J' qq
 show wpAny _ X.A (assign (.Name x px) X.env (.ref acc)) _ _ _
 have I5:Inv X pins σ H' s':=I3.unblock hf3 J' (.refl ..)
 obtain⟨m,hn,_⟩:=J'.loc
 have hn:s'.heap.Ns s3.heap.objs.size m:=hn
 have hLC:s3.heap.objs.size≠X.env.locals:=Nat.ne_of_gt I3.lt
 refine wpAny_assign_Name (ZdK I5 hN hi' (.inl hx) (v:=.ref acc) rfl (fun s6 I6 ⟨a,sb,ha⟩=>?_) (.inr hx))
 have ea:a≠s3.heap.objs.size:=by
  rcases ha with ha | ha
  ·rw[ha];exact Ne.symm hLC
  ·obtain⟨v,o,ho,_⟩:=I3.cell x a ha
   exact Nat.ne_of_lt (Heap.lt_size ho)
 refine⟨m,hn.sameBut sb (Ne.symm ea),fun h' hs'=>?_⟩
 have hfr:H' s3.heap.objs.size=none:=J'.free
 refine⟨_,H',?_,qq⟩
 have ok:HOk X.prog X.w H' h':=fun b ob e=>by
  refine(I6.hok b ob e).stay (fun c w' hc q=>(hs'.2 c ?_).trans q) (fun _ q=>q) fun _ _ q=>q
  rintro rfl
  rcases hc with rfl | hc
  ·rw[hfr]at e;cases e
  ·rw[hfr]at hc;cases hc
 have l3:X.s₀.heap.objs.size≤s3.heap.objs.size:=I3.sz
 have cne:∀y c,X.env.cells.lookup y=some c→c≠s3.heap.objs.size:=fun y c e z=>by
  obtain⟨v,o,ho,_⟩:=I3.cell y c e
  exact absurd (Heap.lt_size ho) (by rw[z];exact Nat.lt_irrefl _)
 exact I6.turned (t':=s6.toks) (it:=s3.heap.objs.size) (fun b o hb e=>(hs'.2 b hb).trans e) hfr hLC (.inr l3) cne fun p hp z=>by
  have:=(I3.pin p hp).1
  exact absurd (Heap.lt_size this) (by rw[z];exact Nat.lt_irrefl _)
end
abbrev tx (l:List Nat):V:=.str ⟨l.toArray⟩
theorem ZdH {a b:List Nat}:tx a=tx b↔a=b:=by
 constructor
 ·intro h
  have h1:(⟨a.toArray⟩:Str)=⟨b.toArray⟩:=V.str.inj h
  have h2:a.toArray=b.toArray:=congrArg Str.cps h1
  simpa using h2
 ·rintro rfl;rfl
theorem Zft {a b:List Nat}:decide (tx a=tx b)=decide (a=b):=by
 by_cases h:a=b
 ·subst h;simp
 ·rw[decide_eq_false h,decide_eq_false fun z=>h (ZdH.mp z)]
theorem Zcg (l:List Nat):(⟨l.toArray⟩:Str).length=l.length:=by
 show l.toArray.size=l.length
 simp
def rT (C:List Nat→List Nat→Prop)(g:List Nat→List Nat→V):R2:=fun x y H Q=>∃a b,x=tx a∧y=tx b∧C a b∧Q (g a b) H
def cut {α:Type}(l:List α)(lo hi:Option Int):List α:=(l.drop (HT.sIx l.length 0 lo)).take (HT.sIx l.length l.length hi-HT.sIx l.length 0 lo)
theorem Zf2 {α:Type}(l:List α)(lo hi:Option Int):(cut l lo hi).length≤l.length:=by
 unfold cut
 rw[List.length_take,List.length_drop]
 omega
theorem ZiJ {α:Type}(l:List α)(a b:Nat):cut l (some (a:Int)) (some (b:Int))=(l.drop a).take (b-a):=by
 unfold cut
 rw[HT.sIx_nat,HT.sIx_nat]
 apply List.ext_getElem?
 intro i
 simp only[List.getElem?_take,List.getElem?_drop]
 by_cases h1:i<min b l.length-min a l.length
 ·rw[if_pos h1,if_pos (by omega)]
  congr 1;omega
 ·rw[if_neg h1]
  by_cases h2:i<b-a
  ·rw[if_pos h2,List.getElem?_eq_none (by omega)]
  ·rw[if_neg h2]
theorem Zlb {α:Type}(l:List α)(b:Nat):cut l none (some (b:Int))=l.take b:=by
 unfold cut
 rw[HT.sIx_nat,HT.sIx_none]
 apply List.ext_getElem?
 intro i
 simp only[List.getElem?_take,List.getElem?_drop,Nat.zero_add,Nat.sub_zero]
 by_cases h1:i<min b l.length
 ·rw[if_pos h1,if_pos (by omega)]
 ·rw[if_neg h1]
  by_cases h2:i<b
  ·rw[if_pos h2,List.getElem?_eq_none (by omega)]
  ·rw[if_neg h2]
theorem Zcc {α:Type}(l:List α)(a:Nat):cut l (some (a:Int)) none=l.drop a:=by
 unfold cut
 rw[HT.sIx_nat,HT.sIx_none]
 apply List.ext_getElem?
 intro i
 simp only[List.getElem?_take,List.getElem?_drop]
 by_cases h1:i<l.length-min a l.length
 ·rw[if_pos h1];congr 1;omega
 ·rw[if_neg h1,List.getElem?_eq_none (by omega)]
def clp (n:Nat)(v:Option Int)(d:Int):Int:=match v with
 | none=>d
 | some i=>max 0 (min (if i<0 then i+(n:Int) else i) (n:Int))
theorem ZiK (n d:Nat)(o:Option Int):clp n o (d:Int)=((HT.sIx n d o:Nat):Int):=by
 cases o with
 | none=>rw[HT.sIx_none];rfl
 | some v=>
  have:=HT.clip_eq v n d
  unfold clp
  dsimp only
  rw[←this]
  split<;>omega
theorem Zgk (lo hi:Option Int)(n:Nat):Builtin.Str.strSliceIndices lo hi 1 n=(List.range (HT.sIx n n hi-HT.sIx n 0 lo)).map fun k=>HT.sIx n 0 lo+k:=by
 have g:Builtin.Str.strSliceIndices lo hi 1 n=sliceRange (clp n lo ((0:Nat):Int)) (clp n hi (n:Int)) 1:=by
  cases lo<;>cases hi<;>rfl
 rw[g,ZiK,ZiK]
 generalize HT.sIx n 0 lo=a
 generalize HT.sIx n n hi=b
 unfold sliceRange
 have hc:(if (1:Int)>0 then (if (a:Int)<(b:Int) then ((b:Int)-a+1-1)/1 else 0) else (if (a:Int)>(b:Int) then ((a:Int)-b-1-1)/(-1) else 0)).toNat=b-a:=by
  simp only[show (1:Int)>0 by decide,if_true,Int.ediv_one]
  split<;>omega
 dsimp only
 rw[hc]
 apply List.map_congr_left
 intro k _
 omega
theorem Zhy (l:List Nat)(lo hi:Option Int):Txt.slice ⟨l.toArray⟩ lo hi=⟨(cut l lo hi).toArray⟩:=by
 have h1:=HT.sIx_le l.length 0 (Nat.zero_le _) lo
 have h2:=HT.sIx_le l.length l.length (Nat.le_refl _) hi
 unfold Txt.slice
 rw[Zcg,Zgk]
 have e:((List.range (HT.sIx l.length l.length hi-HT.sIx l.length 0 lo)).map fun k=>HT.sIx l.length 0 lo+k).filterMap (fun i=>l.toArray[i]?)=cut l lo hi:=by
  unfold cut
  generalize HT.sIx l.length 0 lo=a at *
  generalize HT.sIx l.length l.length hi=b at *
  have hab:∀n,a+n≤l.length→((List.range n).map fun k=>a+k).filterMap (fun i=>l.toArray[i]?)=(l.drop a).take n:=by
   intro n
   induction n with
   | zero=>intro _;simp
   | succ n ih=>
    intro hn
    rw[List.range_succ,List.map_append,List.filterMap_append,ih (by omega),List.take_add_one]
    have:(l.drop a)[n]?=l[a+n]?:=List.getElem?_drop
    simp[this,List.getElem?_eq_getElem (show a+n<l.length by omega)]
  by_cases hle:a≤b
  ·exact hab _ (by omega)
  ·have:b-a=0:=by omega
   rw[this];simp
 split
 ·rename_i hc
  simp only[beq_self_eq_true,Bool.true_and,List.length_map,List.length_range]at hc
  have hc':HT.sIx l.length l.length hi-HT.sIx l.length 0 lo=l.length:=by simpa using hc
  have:cut l lo hi=l:=by
   unfold cut
   have ha:HT.sIx l.length 0 lo=0:=by omega
   rw[hc',ha,List.drop_zero,List.take_of_length_le (Nat.le_refl _)]
  rw[this]
 ·show (⟨(List.filterMap (fun i=>l.toArray[i]?) _).toArray⟩:Str)=_
  rw[e]
section
variable {X:Cx}
theorem Zbw:OpR X (binaryOp .Add) (rT (fun a b=>a.length+b.length≤sizeLine) fun a b=>tx (a++b)):=by
 rintro pins s σ H x y v u Q I rx ry ⟨a,b,rfl,rfl,hz,q⟩
 refine ZfO pins s σ H _ _ v u Q I rx ry ⟨_,_,rfl,rfl,by rw[Zcg,Zcg];exact hz,?_⟩
 have e:((⟨a.toArray⟩:Str)++(⟨b.toArray⟩:Str))=⟨(a++b).toArray⟩:=by
  show (⟨a.toArray++b.toArray⟩:Str)=_
  simp
 rw[e];exact q
theorem ZfN:OpR X (compareOp .In) (fun x y H Q=>∃c l,x=tx [c]∧y=tx l∧Q (.bl (decide (c∈l))) H):=by
 rintro pins s σ H x y v u Q I rx ry ⟨c,l,rfl,rfl,q⟩
 refine ZgE pins s σ H _ _ v u Q I rx ry ⟨_,_,rfl,rfl,?_⟩
 have e:=StrLaws.found_one ⟨l.toArray⟩ c
 have e':(!(Builtin.Str.occurrences ⟨l.toArray⟩ ⟨[c].toArray⟩ 0 (⟨l.toArray⟩:Str).length 1).isEmpty)=decide (c∈l):=by
  rw[show ([c].toArray)=#[c] from rfl,e]
 rw[e'];exact q
theorem Zh6:IxR X (fun x y H Q=>∃l i c,x=tx l∧y=.int i∧l.length≤sizeLine∧atI l i=some c∧Q (tx [c]) H):=by
 rintro value slice pins s σ H x y v u Q I rx ry ⟨l,i,c,rfl,rfl,hz,h,q⟩ hs
 exact ZkR value slice pins s σ H _ _ v u Q I rx ry ⟨_,i,c,rfl,rfl,by rw[Zcg];exact hz,h,q⟩ hs
theorem ZdQ:SlR X (fun x lo hi H Q=>∃l,x=tx l∧l.length≤sizeLine∧Q (tx (cut l lo hi)) H):=by
 rintro pins s σ H x v vl vu lo hi sl Q I rx hs pl pu ⟨l,rfl,hz,q⟩
 obtain⟨t,rfl⟩:=rx
 refine⟨"str",_,F.slot_str_getitem.lookup,typeIs_str _ _ _,?_⟩
 have part:∀ {v:Value} {o:Option Int},IsPart v o→∃p:Option (Int×Tok),v=partValue p∧p.map (·.1)=o:=fun {v o} h=>by
  cases h with
  | none=>exact⟨none,rfl,rfl⟩
  | int i t=>exact⟨some (i,t),rfl,rfl⟩
 obtain⟨a,rfl,ea⟩:=part pl
 obtain⟨b,rfl,eb⟩:=part pu
 refine wpAny_getItem_str_slice (l:=a) (u:=b) (st:=none) hs rfl ?_
 have e:(if ((1:Int) == 1&&(Builtin.Str.strSliceIndices lo hi 1 (⟨l.toArray⟩:Str).length).length == (⟨l.toArray⟩:Str).length)=true then (⟨l.toArray⟩:Str) else ⟨((Builtin.Str.strSliceIndices lo hi 1 (⟨l.toArray⟩:Str).length).filterMap ((⟨l.toArray⟩:Str).cps[·]?)).toArray⟩)=⟨(cut l lo hi).toArray⟩:=Zhy l lo hi
 unfold sliceMade slicePicked
 rw[ea,eb]
 refine post_val_or_str ?_
 refine⟨?_,fun t' k=>?_⟩
 ·show (if ((1:Int) == 1&&(Builtin.Str.strSliceIndices lo hi 1 (⟨l.toArray⟩:Str).length).length == (⟨l.toArray⟩:Str).length)=true then (⟨l.toArray⟩:Str) else ⟨((Builtin.Str.strSliceIndices lo hi 1 (⟨l.toArray⟩:Str).length).filterMap ((⟨l.toArray⟩:Str).cps[·]?)).toArray⟩).length≤sizeLine
  rw[e,Zcg]
  exact Nat.le_trans (Zf2 _ _ _) hz
 ·refine⟨tx (cut l lo hi),H,I.tok _,⟨t',?_⟩,q⟩
  exact congrArg (fun z=>Value.str z t') e
theorem ZcY:∀ {ls:List (List Nat)} {us:List Value},Vals (ls.map tx) us→StrsAre us (ls.map fun l=>(⟨l.toArray⟩:Str))
 | [],us,r=>by
  rw[List.map_nil]at r;cases r;exact .nil
 | l::ls,us,r=>by
  rw[List.map_cons]at r
  cases r with
  | cons r1 r2=>
   obtain⟨t,e⟩:=r1
   subst e
   exact .cons _ t (ZcY r2)
end
def Its (l:List Nat):It:=⟨fun i _=>i<l.length,fun i H x H'=>H'=H∧∃c,l[i]?=some c∧x=tx [c],fun i _=>l.length≤i⟩
theorem Zgd {P:Program} {w:World} {K:PySem.W.Frag} {tg:Expr} (l:List Nat) (t:Tok) (it:Addr) (ty:String) (hty:ty="str_ascii_iterator"∨ty="str_iterator"):Turn P w K tg (Its l) [it] it (fun i h=>h.IsStrIter it ty ⟨l.toArray⟩ t i) where
 mem:=by simp
 obj:=fun i h st b hb=>by
  have e:b=it:=by simpa using hb
  subst e
  obtain⟨o,e,c,d⟩:=st
  exact⟨o,e,fun v z=>by rw[d]at z;cases z⟩
 keep:=fun i h h' st k=>by
  obtain⟨o,e,r⟩:=st
  exact⟨o,k it (by simp) o e,r⟩
 item:=by
  intro X hP hw hK hc i pins s σ H E I hf st hg
  subst hP hw hK
  obtain⟨f0,f1,f2,f3,f4,f5⟩:=hf it (by simp)
  have hg:i<l.length:=hg
  have hx:(⟨l.toArray⟩:Str).cps[i]?=some l[i]:=by
   show l.toArray[i]?=some l[i]
   simp[hg]
  have fin:∀(h':Heap) (tk:Tok),h'.IsStrIter it ty ⟨l.toArray⟩ t (i+1)→Heap.SameBut it s.heap h' →
    ∃u,some (Value.str ⟨#[l[i]]⟩ s.toks)=some u∧wpAny (model X.prog X.w) X.A (letOwnedTupleGo tg (.ref it) u) (fun _ s2=>∃x H',Inv X pins σ H' s2∧RelV x u∧(Its l).yld i H x H'∧s2.heap.IsStrIter it ty ⟨l.toArray⟩ t (i+1)∧∀b∈[it],H' b=none) E { s with heap:=h',toks:=tk }:=fun h' tk st' sb=>by
   have I1:Inv X pins σ H { s with heap:=h',toks:=tk }:=I.turned (t':=tk) (fun b o hb e=>(sb.2 b hb).trans e) f0 f1 f3 f4 f5
   obtain⟨o,e,c,d⟩:=id st'
   refine⟨_,rfl,Zg3 (s:={ s with heap:=h',toks:=tk }) e c d ?_ ⟨tx [l[i]],H,I1,⟨_,rfl⟩,⟨rfl,l[i],by simp[hg],rfl⟩,st',fun b hb=>(hf b hb).1⟩⟩
   rcases hty with rfl | rfl<;>decide
  rcases hty with rfl | rfl
  ·exact wpAny_pyNext_ascii_item st hx fun h' st' sb=>fin h' _ st' sb
  ·exact wpAny_pyNext_wide_item st hx fun h' st' sb=>fin h' _ st' sb
 done:=by
  intro X hP hw hK hc i pins s σ H E I hf st hg
  subst hP hw hK
  obtain⟨f0,f1,f2,f3,f4,f5⟩:=hf it (by simp)
  have hg:l.length≤i:=hg
  have hx:(⟨l.toArray⟩:Str).cps[i]?=none:=by
   show l.toArray[i]?=none
   simp[hg]
  rcases hty with rfl | rfl
  ·exact wpAny_pyNext_ascii_end (I.ok.hd hc) st hx fun h' eb=>⟨rfl,I.turned (t':=s.toks) (fun b o hb e=>eb b o hb e) f0 f1 f3 f4 f5⟩
  ·exact wpAny_pyNext_wide_end (I.ok.hd hc) st hx fun h' eb=>⟨rfl,I.turned (t':=s.toks) (fun b o hb e=>eb b o hb e) f0 f1 f3 f4 f5⟩
 self:=by
  intro A i s Q E st h
  rcases hty with rfl | rfl
  ·exact wpAny_pyIter_striter_ascii st h
  ·exact wpAny_pyIter_striter_wide st h
section
variable {X:Cx}{tg:Expr}
def ZkX (tl:TE):TI:=fun σ H R=>tl σ H fun x H1=>∃l,x=tx l∧R (Its l) H1
theorem Zcq {l:Expr}{tl:TE}(hl:PE X l tl):PI X tg l (ZkX tl):=by
 intro pins s σ H R I h
 refine thn (hl pins s σ H _ I h) fun v s1 ⟨x,H1,I1,r1,q1⟩=>?_
 obtain⟨l,rfl,q⟩:=q1
 obtain⟨t,rfl⟩:=r1
 have fin:∀ty,(ty="str_ascii_iterator"∨ty="str_iterator")→PIE X pins σ tg R (.ref s1.heap.objs.size) { s1 with heap:=s1.heap.push { cls:=.type ty,data:=.fields #[.str ⟨l.toArray⟩ t,.int 0 0] } }:=fun ty hty=>by
  refine⟨s1.heap.objs.size,[s1.heap.objs.size],_,_,H1,rfl,I1.kept (t':=s1.toks) fun b o e=>Heap.get?_push_of_some _ e,Zgd l t _ ty hty,⟨_,Heap.get?_push_size _ rfl,rfl,rfl⟩,fun b hb=>?_,q⟩
  have e:b=s1.heap.objs.size:=by simpa using hb
  subst e
  exact I1.fpOk (Nat.le_refl _) (I1.hok.fresh (Nat.le_refl _))
 cases ha:(⟨l.toArray⟩:Str).cps.all (· < 128)
 ·exact wpAny_pyIter_wide ha (fin _ (.inr rfl))
 ·exact wpAny_pyIter_ascii ha (fin _ (.inl rfl))
end
theorem Zia {l:List Nat}{g:TG}{tb:TS}{D:Ends}{σ:St}{H:Hp}(Pv:Nat→St→Hp→Prop)(h0:Pv 0 σ H)
  (hs:∀i c σ H,l[i]?=some c→Pv i σ H→g (tx [c]) σ H fun σ2 H2=>tb { D with nx:=Pv (i+1),ct:=Pv (i+1),bk:=D.nx } σ2 H2) (hd:∀σ H,Pv l.length σ H→D.nx σ H):
  ∃W:Nat→Nat→St→Hp→Prop,(∃m,W 0 m σ H)∧∀i m σ H,W i m σ H →
   ((Its l).stop i H∧D.nx σ H)∨((Its l).go i H∧∃N:St→Hp→Prop,(∀σ' H',N σ' H'→∃m',m'<m∧W (i+1) m' σ' H')∧∀x H',(Its l).yld i H x H'→g x σ H' fun σ2 H2=>tb { D with nx:=N,ct:=N,bk:=D.nx } σ2 H2):=by
 refine⟨fun i m σ H=>m=l.length-i∧i≤l.length∧Pv i σ H,⟨l.length,by simp,Nat.zero_le _,h0⟩,?_⟩
 rintro i m σ H ⟨rfl,hi,p⟩
 by_cases hlt:i<l.length
 ·refine .inr ⟨hlt,Pv (i+1),fun σ' H' p'=>⟨l.length-(i+1),by omega,rfl,hlt,p'⟩,fun x H' y=>?_⟩
  obtain⟨e,c,hc,y⟩:=y
  subst e y
  exact hs i c σ _ hc p
 ·have e:i=l.length:=by omega
  subst e
  exact .inl ⟨Nat.le_refl _,hd σ H p⟩
inductive DT where
 | f (v:V)
 | l (xs:List DT)
 | t (xs:List DT)
section
variable (K:PySem.W.Frag)(H:Hp)
mutual
def DatOk:DT→V→Prop
 | .f w,v=>v=w∧Zbp w=true
 | .l ds,v=>∃a vs,v=.ref a∧SqL K H a vs∧DatsOk ds vs
 | .t ds,v=>∃a vs,v=.ref a∧SqT K H a vs∧DatsOk ds vs
def DatsOk:List DT→List V→Prop
 | [],vs=>vs=[]
 | d::ds,vs=>∃v r,vs=v::r∧DatOk d v∧DatsOk ds r
end
end
mutual
def deq:DT→DT→Bool
 | .f v,.f w=>eqV v w
 | .l xs,.l ys=>deqs xs ys
 | .t xs,.t ys=>deqs xs ys
 | .f _,.l _=>false
 | .f _,.t _=>false
 | .l _,.f _=>false
 | .t _,.f _=>false
 | .l _,.t _=>false
 | .t _,.l _=>false
def deqs:List DT→List DT→Bool
 | [],[]=>true
 | x::xs,y::ys=>deq x y&&deqs xs ys
 | [],_::_=>false
 | _::_,[]=>false
end
mutual
def dep:DT→Nat
 | .f _=>0
 | .l xs=>deps xs+1
 | .t xs=>deps xs+1
def deps:List DT→Nat
 | []=>0
 | x::xs=>max (dep x) (deps xs)
end
theorem Zfp {v:V}(h:Zbp v=true):eqV v v=true:=by
 cases v<;>first | rfl | (simp[eqV];done) | exact absurd (show false=true from h) Bool.false_ne_true
theorem DatsOk.length {K:PySem.W.Frag}{H:Hp}:∀ {ds:List DT} {vs:List V},DatsOk K H ds vs→vs.length=ds.length
 | [],vs,h=>by
  unfold DatsOk at h;subst h;rfl
 | d::ds,vs,h=>by
  unfold DatsOk at h
  obtain⟨v,r,rfl,_,hr⟩:=h
  rw[List.length_cons,List.length_cons,DatsOk.length hr]
def ZaE (xs ys:List DT)(j:Nat):Bool:=match xs[j]?,ys[j]? with
 | some x,some y=>deq x y
 | _,_=>false
theorem ZeL:∀xs ys:List DT,deqs xs ys=((List.range (min xs.length ys.length)).all (ZaE xs ys)&&xs.length == ys.length)
 | [],[]=>by simp[deqs]
 | [],_::_=>by simp[deqs]
 | _::_,[]=>by simp[deqs]
 | x::xs,y::ys=>by
  have e:min (x::xs).length (y::ys).length=min xs.length ys.length+1:=by simp only[List.length_cons];omega
  have e2:∀j,ZaE (x::xs) (y::ys) (j+1)=ZaE xs ys j:=fun j=>by simp[ZaE]
  have e3:ZaE (x::xs) (y::ys) 0=deq x y:=by simp[ZaE]
  rw[deqs,ZeL xs ys,e,List.range_succ_eq_map,List.all_cons,e3,List.all_map]
  have e4:((fun j=>ZaE (x::xs) (y::ys) j) ∘ Nat.succ)=ZaE xs ys:=by funext j;exact e2 j
  have e5:(ZaE (x::xs) (y::ys) ∘ Nat.succ)=ZaE xs ys:=e4
  rw[e5,Bool.and_assoc]
  simp
mutual
theorem DatOk.uniq {K:PySem.W.Frag}{X:Cx}{pins:List (Addr×Obj)}{σ:St}{H:Hp}{s:Shared}(I:Inv X pins σ H s):∀(d e:DT) (v:V),DatOk X.K H d v→DatOk X.K H e v→deq d e=true
 | .f w,.f u,v,h1,h2=>by
  unfold DatOk at h1 h2
  obtain⟨rfl,hf⟩:=h1
  obtain⟨e,_⟩:=h2
  subst e
  unfold deq
  exact Zfp hf
 | .f w,.l ys,v,h1,h2=>by
  unfold DatOk at h1 h2
  obtain⟨rfl,hf⟩:=h1
  obtain⟨a,vs,rfl,_⟩:=h2
  exact absurd (show false=true from hf) Bool.false_ne_true
 | .f w,.t ys,v,h1,h2=>by
  unfold DatOk at h1 h2
  obtain⟨rfl,hf⟩:=h1
  obtain⟨a,vs,rfl,_⟩:=h2
  exact absurd (show false=true from hf) Bool.false_ne_true
 | .l xs,.f w,v,h1,h2=>by
  unfold DatOk at h1 h2
  obtain⟨rfl,hf⟩:=h2
  obtain⟨a,vs,rfl,_⟩:=h1
  exact absurd (show false=true from hf) Bool.false_ne_true
 | .t xs,.f w,v,h1,h2=>by
  unfold DatOk at h1 h2
  obtain⟨rfl,hf⟩:=h2
  obtain⟨a,vs,rfl,_⟩:=h1
  exact absurd (show false=true from hf) Bool.false_ne_true
 | .l xs,.l ys,v,h1,h2=>by
  unfold DatOk at h1 h2
  obtain⟨a,vs,rfl,q1,r1⟩:=h1
  obtain⟨b,ws,e,q2,r2⟩:=h2
  cases e
  have:=I.list_inj q1 q2
  subst this
  unfold deq
  exact DatsOk.uniq (K:=K) I xs ys vs r1 r2
 | .t xs,.t ys,v,h1,h2=>by
  unfold DatOk at h1 h2
  obtain⟨a,vs,rfl,q1,r1⟩:=h1
  obtain⟨b,ws,e,q2,r2⟩:=h2
  cases e
  have:=I.tuple_inj q1 q2
  subst this
  unfold deq
  exact DatsOk.uniq (K:=K) I xs ys vs r1 r2
 | .l xs,.t ys,v,h1,h2=>by
  unfold DatOk at h1 h2
  obtain⟨a,vs,rfl,q1,r1⟩:=h1
  obtain⟨b,ws,e,q2,r2⟩:=h2
  cases e
  obtain⟨_,_,⟨o,n,e1,c1,_⟩,_⟩:=I.list q1
  obtain⟨_,_,⟨o',e2,c2,_⟩,_⟩:=I.tuple q2
  rw[e1]at e2;cases e2
  rw[c1]at c2;exact absurd c2 (by simp)
 | .t xs,.l ys,v,h1,h2=>by
  unfold DatOk at h1 h2
  obtain⟨a,vs,rfl,q1,r1⟩:=h1
  obtain⟨b,ws,e,q2,r2⟩:=h2
  cases e
  obtain⟨_,_,⟨o',e2,c2,_⟩,_⟩:=I.tuple q1
  obtain⟨_,_,⟨o,n,e1,c1,_⟩,_⟩:=I.list q2
  rw[e1]at e2;cases e2
  rw[c1]at c2;exact absurd c2 (by simp)
theorem DatsOk.uniq {K:PySem.W.Frag}{X:Cx}{pins:List (Addr×Obj)}{σ:St}{H:Hp}{s:Shared}(I:Inv X pins σ H s):∀(xs ys:List DT) (vs:List V),DatsOk X.K H xs vs→DatsOk X.K H ys vs→deqs xs ys=true
 | [],[],vs,h1,h2=>by unfold deqs;rfl
 | [],y::ys,vs,h1,h2=>by
  unfold DatsOk at h1 h2
  subst h1
  obtain⟨_,_,e,_⟩:=h2
  cases e
 | x::xs,[],vs,h1,h2=>by
  unfold DatsOk at h1 h2
  subst h2
  obtain⟨_,_,e,_⟩:=h1
  cases e
 | x::xs,y::ys,vs,h1,h2=>by
  unfold DatsOk at h1 h2
  obtain⟨v,r,rfl,a1,a2⟩:=h1
  obtain⟨v',r',e,b1,b2⟩:=h2
  cases e
  unfold deqs
  rw[DatOk.uniq (K:=K) I x y v a1 b1,DatsOk.uniq (K:=K) I xs ys r a2 b2]
  rfl
end
section
variable {X:Cx}{pins:List (Addr×Obj)}{σ:St}{H:Hp}{s:Shared}
open SeqAt
theorem Zdy {A:Around}{w:V}{u:Value}{l:Addr}{items:Array Value}(hf:Zbp w=true)(r:RelV w u)(hl:s.heap.IsList l items)(hu:A.units<cLine):EqAt A s u (.ref l) false∧EqAt A s (.ref l) u false∧RcAt A s u (.ref l) false∧RcAt A s (.ref l) u false∧RcNeAt A s u (.ref l) true∧RcNeAt A s (.ref l) u true:=by
 cases w with
 | non=>cases r;exact⟨.none_list hl hu,.list_none hl hu,.none_list hl hu,.list_none hl hu,.none_list hl hu,.list_none hl hu⟩
 | bl b=>cases r;exact⟨.bool_list b hl hu,.list_bool b hl hu,.bool_list b hl hu,.list_bool b hl hu,.bool_list b hl hu,.list_bool b hl hu⟩
 | int i=>obtain⟨t,rfl⟩:=r;exact⟨.int_list i t hl hu,.list_int i t hl hu,.int_list i t hl hu,.list_int i t hl hu,.int_list i t hl hu,.list_int i t hl hu⟩
 | str i=>obtain⟨t,rfl⟩:=r;exact⟨.str_list i t hl hu,.list_str i t hl hu,.str_list i t hl hu,.list_str i t hl hu,.str_list i t hl hu,.list_str i t hl hu⟩
 | _=>exact absurd (show false=true from hf) Bool.false_ne_true
theorem Zdx {A:Around}{w:V}{u:Value}{l:Addr}{items:Array Value}(hf:Zbp w=true)(r:RelV w u)(hl:s.heap.IsTuple l items)(hu:A.units<cLine):EqAt A s u (.ref l) false∧EqAt A s (.ref l) u false∧RcAt A s u (.ref l) false∧RcAt A s (.ref l) u false∧RcNeAt A s u (.ref l) true∧RcNeAt A s (.ref l) u true:=by
 cases w with
 | non=>cases r;exact⟨.none_tuple hl hu,.tuple_none hl hu,.none_tuple hl hu,.tuple_none hl hu,.none_tuple hl hu,.tuple_none hl hu⟩
 | bl b=>cases r;exact⟨.bool_tuple b hl hu,.tuple_bool b hl hu,.bool_tuple b hl hu,.tuple_bool b hl hu,.bool_tuple b hl hu,.tuple_bool b hl hu⟩
 | int i=>obtain⟨t,rfl⟩:=r;exact⟨.int_tuple i t hl hu,.tuple_int i t hl hu,.int_tuple i t hl hu,.tuple_int i t hl hu,.int_tuple i t hl hu,.tuple_int i t hl hu⟩
 | str i=>obtain⟨t,rfl⟩:=r;exact⟨.str_tuple i t hl hu,.tuple_str i t hl hu,.str_tuple i t hl hu,.tuple_str i t hl hu,.str_tuple i t hl hu,.tuple_str i t hl hu⟩
 | _=>exact absurd (show false=true from hf) Bool.false_ne_true
theorem Zke {A:Around}{l b:Addr}{ps qs:List Value}{xs ys:List DT}(hl:s.heap.IsList l ps.toArray)(hb:s.heap.IsList b qs.toArray)(n1:ps.length=xs.length)(n2:qs.length=ys.length)(hu:A.units<cLine)
  (he:∀j (h1:j<ps.length) (h2:j<qs.length),EqAt A.in1 s ps[j] qs[j] (ZaE xs ys j)):RcAt A s (.ref l) (.ref b) (deqs xs ys)∧RcNeAt A s (.ref l) (.ref b) (!deqs xs ys):=by
 rw[ZeL]
 by_cases hz:ps.length=qs.length
 ·have hsz:ps.toArray.size=qs.toArray.size:=by rw[List.size_toArray,List.size_toArray];exact hz
  have e1:((List.range (min xs.length ys.length)).all (ZaE xs ys)&&xs.length == ys.length)=(List.range ps.toArray.size).all (ZaE xs ys):=by
   have:xs.length=ys.length:=by omega
   rw[List.size_toArray,n1,←this,Nat.min_self]
   simp
  rw[e1]
  exact⟨RcAt.lists hl hb hsz hu fun j j1 j2=>by simpa using he j (by simpa using j1) (by simpa using j2),RcNeAt.lists hl hb hsz hu fun j j1 j2=>by simpa using he j (by simpa using j1) (by simpa using j2)⟩
 ·have e1:((List.range (min xs.length ys.length)).all (ZaE xs ys)&&xs.length == ys.length)=false:=by
   have:xs.length≠ys.length:=by omega
   simp[this]
  rw[e1]
  have hsz:(ps.toArray.size != qs.toArray.size)=true:=by rw[List.size_toArray,List.size_toArray];simpa using hz
  exact⟨RcAt.lists_lengths hl hb hsz hu,RcNeAt.lists_lengths hl hb hsz hu⟩
theorem Zkd {A:Around}{l b:Addr}{ps qs:List Value}{xs ys:List DT}(hl:s.heap.IsTuple l ps.toArray)(hb:s.heap.IsTuple b qs.toArray)(n1:ps.length=xs.length)(n2:qs.length=ys.length)(hu:A.units<cLine)
  (he:∀j (h1:j<ps.length) (h2:j<qs.length),EqAt A.in1 s ps[j] qs[j] (ZaE xs ys j)):RcAt A s (.ref l) (.ref b) (deqs xs ys)∧RcNeAt A s (.ref l) (.ref b) (!deqs xs ys):=by
 have e1:deqs xs ys=((List.range (min ps.toArray.size qs.toArray.size)).all (ZaE xs ys)&&ps.toArray.size == qs.toArray.size):=by
  rw[ZeL,List.size_toArray,List.size_toArray,n1,n2]
 rw[e1]
 exact⟨RcAt.tuples hl hb hu fun j j1 j2=>by simpa using he j (by simpa using j1) (by simpa using j2),RcNeAt.tuples hl hb hu fun j j1 j2=>by simpa using he j (by simpa using j1) (by simpa using j2)⟩
mutual
theorem Zk7 (I:Inv X pins σ H s):∀(d e:DT) (A:Around) (x y:V) (u v:Value),DatOk X.K H d x→DatOk X.K H e y→RelV x u→RelV y v→A.units+dep d<cLine→EqAt A s u v (deq d e)
 | .f w,.f w',A,x,y,u,v,h1,h2,ru,rv,hu=>by
  unfold DatOk at h1 h2
  obtain⟨rfl,f1⟩:=h1
  obtain⟨rfl,f2⟩:=h2
  unfold deq
  exact Zk6 ru rv f1 f2
 | .f w,.l ys,A,x,y,u,v,h1,h2,ru,rv,hu=>by
  unfold DatOk at h1 h2
  obtain⟨rfl,f1⟩:=h1
  obtain⟨a,vs,rfl,q,_⟩:=h2
  cases rv
  obtain⟨its,_,p,_⟩:=I.list q
  unfold deq
  exact(Zdy f1 ru p.isList (by unfold dep at hu;omega)).1
 | .f w,.t ys,A,x,y,u,v,h1,h2,ru,rv,hu=>by
  unfold DatOk at h1 h2
  obtain⟨rfl,f1⟩:=h1
  obtain⟨a,vs,rfl,q,_⟩:=h2
  cases rv
  obtain⟨its,_,p,_⟩:=I.tuple q
  unfold deq
  exact(Zdx f1 ru (show s.heap.IsTuple a its.toArray from p) (by unfold dep at hu;omega)).1
 | .l xs,.f w,A,x,y,u,v,h1,h2,ru,rv,hu=>by
  unfold DatOk at h1 h2
  obtain⟨rfl,f1⟩:=h2
  obtain⟨a,vs,rfl,q,_⟩:=h1
  cases ru
  obtain⟨its,_,p,_⟩:=I.list q
  unfold deq
  exact(Zdy f1 rv p.isList (by omega)).2.1
 | .t xs,.f w,A,x,y,u,v,h1,h2,ru,rv,hu=>by
  unfold DatOk at h1 h2
  obtain⟨rfl,f1⟩:=h2
  obtain⟨a,vs,rfl,q,_⟩:=h1
  cases ru
  obtain⟨its,_,p,_⟩:=I.tuple q
  unfold deq
  exact(Zdx f1 rv (show s.heap.IsTuple a its.toArray from p) (by omega)).2.1
 | .l xs,.t ys,A,x,y,u,v,h1,h2,ru,rv,hu=>by
  unfold DatOk at h1 h2
  obtain⟨a,vs,rfl,q,_⟩:=h1
  obtain⟨b,ws,rfl,q',_⟩:=h2
  cases ru
  cases rv
  obtain⟨its,_,p,_⟩:=I.list q
  obtain⟨its',_,p',_⟩:=I.tuple q'
  unfold deq
  exact EqAt.list_tuple p.isList (show s.heap.IsTuple b its'.toArray from p') (by omega)
 | .t xs,.l ys,A,x,y,u,v,h1,h2,ru,rv,hu=>by
  unfold DatOk at h1 h2
  obtain⟨a,vs,rfl,q,_⟩:=h1
  obtain⟨b,ws,rfl,q',_⟩:=h2
  cases ru
  cases rv
  obtain⟨its,_,p,_⟩:=I.tuple q
  obtain⟨its',_,p',_⟩:=I.list q'
  unfold deq
  exact EqAt.tuple_list (show s.heap.IsTuple a its.toArray from p) p'.isList (by omega)
 | .l xs,.l ys,A,x,y,u,v,h1,h2,ru,rv,hu=>by
  by_cases hxy:x=y
  ·subst hxy
   rw[DatOk.uniq (K:=X.K) I (.l xs) (.l ys) x h1 h2]
   unfold DatOk at h1
   obtain⟨a,vs,rfl,_⟩:=h1
   cases ru
   cases rv
   exact EqAt.same _
  ·unfold DatOk at h1 h2
   obtain⟨a,vs,rfl,q,d1⟩:=h1
   obtain⟨b,ws,rfl,q',d2⟩:=h2
   cases ru
   cases rv
   obtain⟨its,r,p,_⟩:=I.list q
   obtain⟨its',r',p',_⟩:=I.list q'
   unfold deq
   unfold dep at hu
   refine EqAt.of_refs (fun e=>hxy (by rw[e])) (Zke p.isList p'.isList (by rw[←r.length,d1.length]) (by rw[←r'.length,d2.length]) (by omega) fun j j1 j2=>?_).1
   exact ZcG I xs ys A.in1 vs ws its its' d1 d2 r r' (by show A.units+1+_<_;omega) j j1 j2
 | .t xs,.t ys,A,x,y,u,v,h1,h2,ru,rv,hu=>by
  by_cases hxy:x=y
  ·subst hxy
   rw[DatOk.uniq (K:=X.K) I (.t xs) (.t ys) x h1 h2]
   unfold DatOk at h1
   obtain⟨a,vs,rfl,_⟩:=h1
   cases ru
   cases rv
   exact EqAt.same _
  ·unfold DatOk at h1 h2
   obtain⟨a,vs,rfl,q,d1⟩:=h1
   obtain⟨b,ws,rfl,q',d2⟩:=h2
   cases ru
   cases rv
   obtain⟨its,r,p,_⟩:=I.tuple q
   obtain⟨its',r',p',_⟩:=I.tuple q'
   unfold deq
   unfold dep at hu
   refine EqAt.of_refs (fun e=>hxy (by rw[e])) (Zkd (show s.heap.IsTuple a its.toArray from p) (show s.heap.IsTuple b its'.toArray from p') (by rw[←r.length,d1.length]) (by rw[←r'.length,d2.length]) (by omega) fun j j1 j2=>?_).1
   exact ZcG I xs ys A.in1 vs ws its its' d1 d2 r r' (by show A.units+1+_<_;omega) j j1 j2
theorem ZcG (I:Inv X pins σ H s):∀(xs ys:List DT) (A:Around) (vs ws:List V) (ps qs:List Value),DatsOk X.K H xs vs→DatsOk X.K H ys ws→Vals vs ps→Vals ws qs→A.units+deps xs<cLine →
  ∀(j:Nat) (h1:j<ps.length) (h2:j<qs.length),EqAt A s ps[j] qs[j] (ZaE xs ys j)
 | [],ys,A,vs,ws,ps,qs,d1,d2,r1,r2,hu,j,h1,h2=>by
  unfold DatsOk at d1
  subst d1
  cases r1
  exact absurd h1 (Nat.not_lt_zero _)
 | x::xs,[],A,vs,ws,ps,qs,d1,d2,r1,r2,hu,j,h1,h2=>by
  unfold DatsOk at d2
  subst d2
  cases r2
  exact absurd h2 (Nat.not_lt_zero _)
 | x::xs,y::ys,A,vs,ws,ps,qs,d1,d2,r1,r2,hu,j,h1,h2=>by
  unfold DatsOk at d1 d2
  obtain⟨v,vr,rfl,a1,a2⟩:=d1
  obtain⟨w,wr,rfl,b1,b2⟩:=d2
  unfold deps at hu
  cases r1 with
  | cons ru rus=>
   cases r2 with
   | cons rv rvs=>
    cases j with
    | zero=>
     have:=Zk7 I x y A v w _ _ a1 b1 ru rv (by omega)
     simpa [ZaE] using this
    | succ j=>
     have:=ZcG I xs ys A vr wr _ _ a2 b2 rus rvs (by omega) j (Nat.lt_of_succ_lt_succ h1) (Nat.lt_of_succ_lt_succ h2)
     simpa [ZaE] using this
end
theorem Zkc (I:Inv X pins σ H s){d e:DT}{A:Around}{x y:V}{u v:Value}(h1:DatOk X.K H d x)(h2:DatOk X.K H e y)(ru:RelV x u)(rv:RelV y v)(hu:A.units+dep d<cLine)(hn:¬(Zbp x=true∧Zbp y=true)):
  RcAt A s u v (deq d e)∧RcNeAt A s u v (!deq d e):=by
 cases d with
 | f w=>
  unfold DatOk at h1
  obtain⟨rfl,f1⟩:=h1
  cases e with
  | f w'=>
   unfold DatOk at h2
   obtain⟨rfl,f2⟩:=h2
   exact absurd ⟨f1,f2⟩ hn
  | l ys=>
   unfold DatOk at h2
   obtain⟨a,vs,rfl,q,_⟩:=h2
   cases rv
   obtain⟨its,_,p,_⟩:=I.list q
   have z:=Zdy (A:=A) f1 ru p.isList (by omega)
   unfold deq
   exact⟨z.2.2.1,z.2.2.2.2.1⟩
  | t ys=>
   unfold DatOk at h2
   obtain⟨a,vs,rfl,q,_⟩:=h2
   cases rv
   obtain⟨its,_,p,_⟩:=I.tuple q
   have z:=Zdx (A:=A) f1 ru (show s.heap.IsTuple a its.toArray from p) (by omega)
   unfold deq
   exact⟨z.2.2.1,z.2.2.2.2.1⟩
 | l xs=>
  unfold DatOk at h1
  obtain⟨a,vs,rfl,q,d1⟩:=h1
  cases ru
  obtain⟨its,r,p,_⟩:=I.list q
  cases e with
  | f w=>
   unfold DatOk at h2
   obtain⟨rfl,f1⟩:=h2
   have z:=Zdy (A:=A) f1 rv p.isList (by omega)
   unfold deq
   exact⟨z.2.2.2.1,z.2.2.2.2.2⟩
  | l ys=>
   unfold DatOk at h2
   obtain⟨b,ws,rfl,q',d2⟩:=h2
   cases rv
   obtain⟨its',r',p',_⟩:=I.list q'
   unfold deq
   unfold dep at hu
   exact Zke p.isList p'.isList (by rw[←r.length,d1.length]) (by rw[←r'.length,d2.length]) (by omega) fun j j1 j2=>ZcG I xs ys A.in1 vs ws its its' d1 d2 r r' (by show A.units+1+_<_;omega) j j1 j2
  | t ys=>
   unfold DatOk at h2
   obtain⟨b,ws,rfl,q',d2⟩:=h2
   cases rv
   obtain⟨its',r',p',_⟩:=I.tuple q'
   unfold deq
   exact⟨RcAt.list_tuple p.isList (show s.heap.IsTuple b its'.toArray from p') (by omega),RcNeAt.list_tuple p.isList (show s.heap.IsTuple b its'.toArray from p') (by omega)⟩
 | t xs=>
  unfold DatOk at h1
  obtain⟨a,vs,rfl,q,d1⟩:=h1
  cases ru
  obtain⟨its,r,p,_⟩:=I.tuple q
  cases e with
  | f w=>
   unfold DatOk at h2
   obtain⟨rfl,f1⟩:=h2
   have z:=Zdx (A:=A) f1 rv (show s.heap.IsTuple a its.toArray from p) (by omega)
   unfold deq
   exact⟨z.2.2.2.1,z.2.2.2.2.2⟩
  | t ys=>
   unfold DatOk at h2
   obtain⟨b,ws,rfl,q',d2⟩:=h2
   cases rv
   obtain⟨its',r',p',_⟩:=I.tuple q'
   unfold deq
   unfold dep at hu
   exact Zkd (show s.heap.IsTuple a its.toArray from p) (show s.heap.IsTuple b its'.toArray from p') (by rw[←r.length,d1.length]) (by rw[←r'.length,d2.length]) (by omega) fun j j1 j2=>ZcG I xs ys A.in1 vs ws its its' d1 d2 r r' (by show A.units+1+_<_;omega) j j1 j2
  | l ys=>
   unfold DatOk at h2
   obtain⟨b,ws,rfl,q',d2⟩:=h2
   cases rv
   obtain⟨its',r',p',_⟩:=I.list q'
   unfold deq
   exact⟨RcAt.tuple_list (show s.heap.IsTuple a its.toArray from p) p'.isList (by omega),RcNeAt.tuple_list (show s.heap.IsTuple a its.toArray from p) p'.isList (by omega)⟩
end
def rEqD (K:PySem.W.Frag)(neg:Bool):R2:=fun x y H Q=>(scal x y=true∧Q (.bl (if neg then !decide (x=y) else decide (x=y))) H) ∨
 ∃d e,DatOk K H d x∧DatOk K H e y∧¬(Zbp x=true∧Zbp y=true)∧dep d≤60∧Q (.bl (if neg then !deq d e else deq d e)) H
theorem Ziv {X:Cx}(hu:X.A.units+64<cLine):OpR X (compareOp .Eq) (rEqD X.K false):=by
 intro pins s σ H x y v u Q I rx ry h
 rcases h with⟨h1,q⟩|⟨d,e,h1,h2,hn,hd,q⟩
 ·exact Zmr pins s σ H x y v u Q I rx ry ⟨h1,q⟩
 ·exact(Zkc I h1 h2 rx ry (by omega) hn).1 _ _ _ _ ⟨.bl _,H,I,rfl,q⟩
theorem Zkn {X:Cx}(hu:X.A.units+64<cLine):OpR X (compareOp .NotEq) (rEqD X.K true):=by
 intro pins s σ H x y v u Q I rx ry h
 rcases h with⟨h1,q⟩|⟨d,e,h1,h2,hn,hd,q⟩
 ·exact Zmp pins s σ H x y v u Q I rx ry ⟨h1,q⟩
 ·exact(Zkc I h1 h2 rx ry (by omega) hn).2 _ _ _ _ ⟨.bl _,H,I,rfl,q⟩
theorem Same.seqT {K:PySem.W.Frag}{H H':Hp}{a:Addr}{xs:List V}(e:Same H H')(h:SqT K H a xs):SqT K H' a xs:=by
 rcases h with (h | ⟨o,h⟩) | h
 ·exact .inl (.inl (e _ _ h))
 ·exact .inl (.inr ⟨o,e _ _ h⟩)
 ·exact .inr h
theorem Zfu {K:PySem.W.Frag}{H:Hp}:∀ {vs:List V},vs.all Zbp=true→DatsOk K H (vs.map DT.f) vs
 | [],_=>by unfold DatsOk;rfl
 | v::r,h=>by
  rw[List.all_cons,Bool.and_eq_true]at h
  rw[List.map_cons]
  unfold DatsOk
  exact⟨v,r,rfl,by unfold DatOk;exact⟨rfl,h.1⟩,Zfu h.2⟩
theorem Zhd (vs:List V):deps (vs.map DT.f)=0:=by
 induction vs with
 | nil=>rfl
 | cons v r ih=>rw[List.map_cons];unfold deps;rw[ih];rfl
theorem datL {K:PySem.W.Frag}{H:Hp}{a:Addr}{vs:List V}(h:SqL K H a vs)(hf:vs.all Zbp=true):DatOk K H (.l (vs.map DT.f)) (.ref a):=by
 unfold DatOk
 exact⟨a,vs,rfl,h,Zfu hf⟩
end L2
namespace L2
open PySem PySem.Spec PyProof.Rows
open PySem.W (Frag findIn specialIn typeIn mroIn clsIn InstAt Looks)
def Zes:List Value:=[.type "ValueError",.type "Exception",.type "BaseException",.type "object"]
def Ziz:Value→Bool
 | .ref _=>true
 | _=>false
def xmro (l:List Value):Bool:=l.dropWhile Ziz == Zes
theorem ZeV {P:List Value→Prop}(h0:P Zes)(h1:∀c r,P r→P (.ref c::r)):∀l:List Value,xmro l=true→P l
 | [],e=>by simp[xmro,Zes]at e
 | v::r,e=>by
  cases hv:Ziz v with
  | true=>
   cases v with
   | ref c=>
    refine h1 c r (ZeV h0 h1 r ?_)
    unfold xmro at e ⊢
    rw[List.dropWhile_cons,if_pos hv]at e
    exact e
   | _=>cases hv
  | false=>
   unfold xmro at e
   rw[List.dropWhile_cons,if_neg (by rw[hv];exact Bool.false_ne_true)]at e
   rw[show (v::r)=Zes by simpa using e]
   exact h0
theorem Zhs {n:String}{b:Bool}(h:Zes.contains (.type n)=b){l:List Value}(e:xmro l=true):l.contains (.type n)=b:=
 ZeV (P:=fun l=>l.contains (.type n)=b) h (fun c r h=>by rw[List.contains_cons,h];rfl) l e
structure Xc (K:Frag)(C:Addr):Prop where
 ga:findIn K (.ref C) "__getattribute__"=some (some (.builtin "BaseException.__getattribute__"))
 gr:findIn K (.ref C) "__getattr__"=some none
 sa:findIn K (.ref C) "__setattr__"=some (some (.builtin "object.__setattr__"))
 hd:PySem.W.hasDictIn K C=true
 mr:(clsIn K C).any (fun cd=>xmro cd.mro)=true
theorem ZiP {l:List Value}(e:xmro l=true):l.isEmpty=false:=by
 cases l with
 | nil=>simp[xmro,Zes]at e
 | cons _ _=>rfl
theorem Xc.base {K:Frag}{C:Addr}(c:Xc K C){n:String}{b:Bool}(h:Zes.contains (.type n)=b):mroIn K C (.type n)=some b:=by
 obtain⟨cd,hc,hm⟩:=PySem.W.any_some c.mr
 unfold PySem.W.mroIn
 rw[hc,Option.bind_some,if_neg (by rw[ZiP hm];exact Bool.false_ne_true),Zhs h hm]
def xo (a C:Addr)(d:Option Addr):HO:=.ext fun h=>∃(o:Obj) (t:Addr),h.get? a=some o∧o.cls=.ref C∧o.dict=d∧o.data=.fields #[.ref t,.none,.none,.none,.bool false,.none]
def xdO (d:Addr)(fs:List (Str×V)):HO:=.ext fun h=>fs.length≤1000∧∃mA,h.Ns1 d mA∧(∀f,RelO (fs.lookup f) (mA f))∧PySem.Within mA (fs.map (·.1))
inductive XAt (H:Hp) (e C:Addr):List (Str×V)→Prop where
 | bare:H e=some (xo e C none)→XAt H e C []
 | full {d:Addr} {fs:List (Str×V)}:H e=some (xo e C (some d))→H d=some (xdO d fs)→d≠e→XAt H e C fs
section
variable {X:Cx}{pins:List (Addr×Obj)}{σ:St}{H:Hp}{s:Shared}{e C:Addr}{fs:List (Str×V)}{f:Str}{v:V}{A:Around}{E:Value→Shared→Prop}
theorem Ziq {d:Option Addr}(I:Inv X pins σ H s)(h:H e=some (xo e C d)):∃(o:Obj) (t:Addr),s.heap.get? e=some o∧o.cls=.ref C∧o.dict=d∧o.data=.fields #[.ref t,.none,.none,.none,.bool false,.none]:=(I.hok e _ h).1
theorem XAt.inst (I:Inv X pins σ H s)(x:XAt H e C fs):∃(ox:Obj) (od:Option Obj),InstAt s.heap e ox C od∧∀name,∃r,(match od with | some o=>PySem.W.lookIn name o | none=>some none)=some r∧RelO (fs.lookup name) r:=by
 cases x with
 | bare h=>
  obtain⟨o,t,h1,h2,h3,h4⟩:=Ziq I h
  exact⟨o,none,⟨h1,h2,by unfold PySem.W.notCls;rw[h4],by rw[h3];trivial⟩,fun name=>⟨none,rfl,by trivial⟩⟩
 | @full d _ h h' hne=>
  obtain⟨o,t,h1,h2,h3,h4⟩:=Ziq I h
  obtain⟨⟨_,mA,hn,hr,_⟩,_⟩:=I.hok d _ h'
  obtain⟨od,hod,hl⟩:=Zcv hn
  exact⟨o,some od,⟨h1,h2,by unfold PySem.W.notCls;rw[h4],by rw[h3];exact hod⟩,fun name=>⟨mA name,hl name,hr name⟩⟩
theorem Zha:entryFor table "BaseException.__getattribute__"=some Builtin.«object.__getattribute__»:=F.entry_bexc_ga
end
structure Xm (K:Frag)(C:Addr):Prop where
 c:Xc K C
 ob:∃(nm q:Str) (N:Addr) (bs bm:List Value) (hdct:Bool) (sn:List Str) (sub:List Value) (ab:Bool) (col:Option Bool) (dd:Option Addr) (k0 k1 k2 k3 k5:Option Value),
  K.lookup C=some (excClassObj nm q C N bs bm hdct sn sub ab col dd k0 k1 k2 k3 k5 "ValueError.__new__")
 kp:PySem.W.keepIn K (.ref C)=true
section
variable {prog:Program}{w:World}{A:Around}{E:Value→Shared→Prop}{h:Heap}{g:Array GenState}{d:Drawn}{t:Nat}{os:OsState}{K:Frag}
variable {nm q:Str}{C N:Addr}{bs bm:List Value}{hdct:Bool}{sn:List Str}{sub:List Value}{ab:Bool}{col:Option Bool}{dd:Option Addr}{k0 k1 k2 k3 k5:Option Value}
end
section
variable {X:Cx}{pins:List (Addr×Obj)}{σ:St}{H:Hp}{s:Shared}{C:Addr}{us:List Value}{vs:List V}{Q:VK}
end
structure Xi (K:Frag)(C:Addr):Prop where
 c:Xc K C
 ha:findIn K (.ref C) "__class__"=some (some (.builtin "object.__class__"))
 hn:specialIn K (.builtin "object.__class__") "__get__"=some (some (.builtin "getset_descriptor.__get__"))
 htk:PySem.W.takesIn K (.builtin "object.__class__")=some true
section
variable {K:Frag}{x C:Addr}{ox:Obj}{od:Option Obj}{prog:Program}{w:World}{A:Around}{E:Value→Shared→Prop}{s:Shared}
theorem ZjM {Q:Option Value→Shared→Prop}(i:Xi K C)(KX:K.In s.heap)(I:InstAt s.heap x ox C od)(h:Q (some (.ref C)) { s with toks:=s.toks+1 }):wpAny (model prog w) A (getAttr? (.ref x) "__class__") Q E s:=by
 have c:=i.c
 have hf:PySem.W.findObj K C od "__class__"=some (.bind (.builtin "getset_descriptor.__get__") (.builtin "object.__class__")):=by
  obtain⟨cd,hc,_⟩:=PySem.W.any_some c.hd
  unfold PySem.W.findObj
  rw[hc,i.ha]
  simp only[Option.bind_some,i.hn,i.htk]
 obtain⟨hp,g,d,t,os⟩:=s
 have L0:=I.type (M:=model prog w)
 have L1:=PySem.W.looks_findIn (M:=model prog w) KX c.ga
 have L2:=PySem.W.looks_findIn (M:=model prog w) KX c.gr
 have L3:=PySem.W.looks_find (M:=model prog w) KX I hf
 have L4:=PySem.W.looks_mroIn (M:=model prog w) KX (c.base (n:="BaseException") (b:=true) (by decide +kernel))
 have hm:=c.base (n:="object") (b:=true) (by decide +kernel)
 have hx2:(Value.builtin "BaseException.__getattribute__" == Value.builtin "object.__getattribute__")=false:=by decide +kernel
 have slot:=F.excAttr_ValueError.ga
 unfold getAttr? getAttrBy?
 refine wpAny_bind (wpAny_mkText (wpAny_bind (wpAny_attempt ?_)))
 unfold getAttrBy
 refine wpAny_holding (wpAny_bind (L0.at (wpAny_bind (L1.at ?_))))
 dsimp only
 rw[hx2,Bool.and_false,if_neg Bool.false_ne_true]
 unfold getAttrByItsOwn hookBefore
 refine wpAny_bind ?_
 show wpAny _ _ (if onTheHeap (Value.ref C)=true then typeLookup (.ref C) "__getattr__" else pure none) _ _ _
 rw[if_pos (show onTheHeap (Value.ref C)=true from rfl)]
 refine L2.at (wpAny_bind (wpAny_attempt (wpAny_holding ?_)))
 unfold callGetattribute
 rw[show (false&&onTheHeap (Value.builtin "BaseException.__getattribute__"))=false from rfl,if_neg Bool.false_ne_true]
 unfold boundAndCalled
 rw[slot.bind]
 refine wpAny_bind (wpAny_pure ?_)
 show wpAny _ _ (call (.builtin "BaseException.__getattribute__") [.ref x,.str "__class__" t]) _ _ _
 refine wpAny_call (codeAny_call_builtin slot.plain Zha ?_)
 refine @PySem.W.check_slot (model prog w) _ _ ⟨hp,g,d,t+1,os⟩ "BaseException.__getattribute__" "BaseException" "__getattribute__" (.ref x) [.str "__class__" t] [] _ (by decide +kernel) (by decide +kernel) (L0.andThen L4) (F.args_bexc_ga (.ref x) (.str "__class__" t)) ?_
 refine wpAny_bind (wpAny_pure (wpAny_bind (wpAny_pure (wpAny_bind (L0.at (wpAny_bind (L3.at ?_)))))))
 show wpAny _ _ (holding [.builtin "object.__class__"] (call (.builtin "getset_descriptor.__get__") [.builtin "object.__class__",.ref x,.ref C]) >>= ret) _ _ _
 refine wpAny_bind (wpAny_holding (wpAny_call (PySem.W.class_get (s:=⟨hp,g,d,t+1,os⟩) (ox:=ox) (od:=od) KX I hm (wpAny_pure ?_))))
 exact PySem.W.handed_on rfl (wpAny_pure h)
theorem Zff (i:Xi K C):PySem.W.KitX K (.ref x) (.ref C) (fun h=>InstAt h x ox C od) where
 ty:=fun _ _ _ I=>I.type
 it:=fun _ _ KX _=>by
  obtain⟨cd,hc,_⟩:=PySem.W.any_some i.c.hd
  unfold PySem.W.clsIn at hc
  split at hc
  ·rename_i ho
   intro A' Q' E' s' k q
   unfold isType loadHead
   exact wpAny_bind (wpAny_loadPart (k _ _ (KX _ _ ho)) (wpAny_pure q))
  ·cases hc
 ne:=fun h tp dd its n sl KX htp=>by
  obtain⟨cd,hc,_⟩:=PySem.W.any_some i.c.hd
  refine Bool.eq_false_iff.mpr fun q=>?_
  have e:C=tp:=Value.ref.inj (beq_iff_eq.mp q)
  subst e
  unfold PySem.W.clsIn at hc
  split at hc
  ·rename_i ho
   have z:=(KX _ _ ho).symm.trans htp
   cases z
  ·cases hc
 ca:=fun KX I k=>ZjM i KX I k
end
inductive TyX (K:Frag) (H:Hp):V→Value→Prop where
 | pl {x:V} {t:Value} (h:TyOf K H x t):TyX K H x t
 | seqL {a:Addr} {xs:List V} (h:SqL K H a xs):TyX K H (.ref a) (.type "list")
 | seqT {a:Addr} {xs:List V} (h:SqT K H a xs):TyX K H (.ref a) (.type "tuple")
 | exc {e C:Addr} {fs:List (Str×V)} (x:XAt H e C fs) (i:Xi K C):TyX K H (.ref e) (.ref C)
def clsV:V→Option Value
 | .ref a=>some (.ref a)
 | .ty n=>some (.type n)
 | _=>none
theorem ZeR {X:Cx}:Zb5 X (.builtin "isinstance") (fun xs H Q=>∃x c t k b,xs=[x,c]∧clsV c=some k∧TyX X.K H x t∧PySem.W.kitOne X.K t k=some b∧Q (.bl b) H):=by
 rintro pins s σ H xs us Q I r ⟨x,c,t,k,b,rfl,hk,ty,e,q⟩
 obtain⟨u,v,rfl,ru,rv⟩:=r.two
 have hv:v=k:=by
  cases c with
  | ref a=>cases hk;exact rv
  | ty n=>cases hk;exact rv
  | _=>cases hk
 subst hv
 cases ty with
 | pl ty=>exact ZgZ I ru ty e fun tk=>⟨.bl b,H,I.tok _,rfl,q⟩
 | seqL h=>
  cases ru
  obtain⟨its,_,⟨o,n,ho,hc,_⟩,_⟩:=I.list h
  exact PySem.W.kia_one PySem.W.kitx_list I.kIn ⟨o,ho,hc⟩ e (fun z=>nomatch z) fun tk=>⟨.bl b,H,I.tok _,rfl,q⟩
 | seqT h=>
  cases ru
  obtain⟨its,_,⟨o,ho,hc,_⟩,_⟩:=I.tuple h
  exact PySem.W.kia_one PySem.W.kitx_tuple I.kIn ⟨o,ho,hc⟩ e (fun z=>nomatch z) fun tk=>⟨.bl b,H,I.tok _,rfl,q⟩
 | exc x i=>
  cases ru
  obtain⟨ox,od,J,_⟩:=x.inst I
  exact PySem.W.kia_one (Zff i) I.kIn J e (fun z=>nomatch z) fun tk=>⟨.bl b,H,I.tok _,rfl,q⟩
def Zll (K:Frag)(ta:TE)(f:Str):TE:=fun σ H Q=>ta σ H fun x H1=>∃e C fs v,x=.ref e∧XAt H1 e C fs∧Xc K C∧NoAttr K C f∧fs.lookup f=some v∧Q v H1
def Zme (K:Frag)(ta tv:TE)(f:Str):TS:=fun D σ H=>tv σ H fun y H1=>ta σ H1 fun x H2=>∃e C fs,x=.ref e∧XAt H2 e C fs∧Xc K C∧NoAttr K C f∧fs.length<1000 ∧
 ∀H',XAt H' e C (putF f y fs)→(∀b o,H2 b=some o→b≠e→(∀d,H2 e=some (xo e C (some d))→b≠d)→H' b=some o)→(∃d,H' e=some (xo e C (some d))∧(H2 e=some (xo e C (some d))∨H2 d=none))→D.nx σ H'
def ZiT (K:Frag)(C:Addr)(t:TA):TE:=fun σ H Q=>t σ H fun vs H1=>vs.length≤1000∧∀e,H1 e=none→Q (.ref e) (upd H1 e (xo e C none))
def ZjQ (C:Addr)(sp:Sp)(E:XK)(t:TA):TE:=fun σ H Q=>t σ H fun vs H1=>vs.length≤1000∧∀e,H1 e=none→sp (.ref e::vs) (upd H1 e (xo e C none)) (fun v H2=>v=.non∧Q (.ref e) H2) E
section
variable {X:Cx}{o e value:Expr}{es:List Expr}{f x:Str}{p pos pos':Pos}{ta tv:TE}{t:TA}{C fI:Addr}
structure ClsRead (K:Frag)(C:Addr)(f:Str)(v:Value):Prop where
 sp:specialIn K (.ref C) "__getattribute__"=some (some (.builtin "type.__getattribute__"))
 rd:PySem.W.readsIn K C (.type "type")=true
 fd:PySem.W.findCls K (.ref C) (.type "type") f=some (.val v)
 hn:PySem.W.handedIn v=true
def ZjR (K:Frag)(t:TA):TE:=fun σ H Q=>t σ H fun vs H1=>∃e C d rest,vs=.ref e::rest∧H1 e=some (xo e C d)∧Xm K C∧rest.length≤1000∧Q .non H1
end
end L2
namespace L2
open PySem PySem.Spec PyProof.Rows
section
variable {X:Cx}{pins:List (Addr×Obj)}{σ:St}{H:Hp}{s:Shared}
end
def Ite (K:PySem.W.Frag)(a:Addr):It:=
 ⟨fun i H=>∃xs x,SqL K H a xs∧xs[i]?=some x,fun i H x H'=>∃p v,H p=none∧x=.ref p∧H'=upd H p (.tup [.int i,v])∧∀xs,SqL K H a xs→xs[i]?=some v,fun i H=>∃xs,SqL K H a xs∧xs.length≤i⟩
section
variable {X:Cx}{es:List Expr}{x1:Nat}{tp:Pos}
def ZmL (K:PySem.W.Frag)(ta:TA):TI:=fun σ H R=>ta σ H fun vs H1=>∃a,vs=[.ref a]∧(∃xs,SqL K H1 a xs)∧R (Ite K a) H1
end
section
variable {H:Hp}{Q:VK}{σ:St}
theorem q_I {C:Int→Int→Prop}{g:Int→Int→V}{i j:Int}:rI C g (.int i) (.int j) H Q=(C i j∧Q (g i j) H):=
 propext ⟨fun ⟨_,_,e1,e2,h⟩=>by cases e1;cases e2;exact h,fun h=>⟨i,j,rfl,rfl,h⟩⟩
theorem q_I0 {g:Int→Int→V}{i j:Int}:rI0 g (.int i) (.int j) H Q=Q (g i j) H:=
 propext ⟨fun ⟨_,_,e1,e2,h⟩=>by cases e1;cases e2;exact h,fun h=>⟨i,j,rfl,rfl,h⟩⟩
theorem q_U {g:Int→V}{i:Int}:rU g (.int i) H Q=Q (g i) H:=
 propext ⟨fun ⟨_,e1,h⟩=>by cases e1;exact h,fun h=>⟨i,rfl,h⟩⟩
theorem q_T {C:List Nat→List Nat→Prop}{g:List Nat→List Nat→V}{a b:List Nat}:rT C g (tx a) (tx b) H Q=(C a b∧Q (g a b) H):=
 propext ⟨fun ⟨_,_,e1,e2,h⟩=>by rw[ZdH.mp e1,ZdH.mp e2];exact h,fun h=>⟨a,b,rfl,rfl,h⟩⟩
theorem q_b {b:Bool}{p:Bool→Prop}:(∃k,V.bl b=V.bl k∧p k)=p b:=
 propext ⟨fun ⟨_,e,h⟩=>by cases e;exact h,fun h=>⟨b,rfl,h⟩⟩
theorem q_var {v:V}{p:V→Prop}:(∃u,some (some v)=some (some u)∧p u)=p v:=
 propext ⟨fun ⟨_,e,h⟩=>by cases e;exact h,fun h=>⟨v,rfl,h⟩⟩
theorem q_var' {v:V}{p:V→Prop}:(∃u,v=u∧p u)=p v:=
 propext ⟨fun ⟨_,e,h⟩=>by cases e;exact h,fun h=>⟨v,rfl,h⟩⟩
end
end L2
namespace L2
open PySem PySem.Spec PyProof.Rows
open PySem.W (Frag findIn specialIn typeIn mroIn clsIn subIn kitOne kitCls)
def Zld (sc sco:Scope):Bool:=decide (sc.kind=.function)&&sc.names.all fun y=>decide (y.2≠NameKind.cell)&&(decide (y.2≠NameKind.local) || decide (sc.names.lookup y.1=some NameKind.local)) &&
 (decide (y.2≠NameKind.free) || (decide (sco.names.lookup y.1=some NameKind.cell) || decide (sco.names.lookup y.1=some NameKind.free)))
theorem Za0 {X:Cx}{sc:Scope}(h:Zld sc X.env.scope=true):CmpScope X sc:=by
 unfold Zld at h
 rw[Bool.and_eq_true,List.all_eq_true]at h
 obtain⟨h1,h2⟩:=h
 refine⟨of_decide_eq_true h1,fun y hy=>?_,fun y hy e=>?_,fun y hy e=>?_⟩
 ·have:=h2 y hy
  simp only[Bool.and_eq_true,Bool.or_eq_true,decide_eq_true_eq]at this
  exact this.1.1
 ·have:=h2 y hy
  simp only[Bool.and_eq_true,Bool.or_eq_true,decide_eq_true_eq]at this
  rcases this.1.2 with z | z
  ·exact absurd e z
  ·exact z
 ·have:=h2 y hy
  simp only[Bool.and_eq_true,Bool.or_eq_true,decide_eq_true_eq]at this
  rcases this.2 with z | z | z
  ·exact absurd e z
  ·exact .inl z
  ·exact .inr z
section
variable {K:Frag}{H:Hp}{C D:Addr}
structure ClsOk (K:Frag)(C:Addr)(mro:List Value):Prop where
 cd:∃cd,clsIn K C=some cd∧cd.mro=mro
 ty:typeIn K (.ref C)=some (.type "type")
 ne:mro.isEmpty=false
theorem ZaA {a:Addr}{o:HO}(h:H a=none):Same H (upd H a o):=fun b u hb=>by rw[Zac (Zah hb h)];exact hb
end
def Mk0 (C:Addr)(H:Hp)(Q:VK):Prop:=∀e,H e=none→Q (.ref e) (upd H e (xo e C none))
def MkI (sp:Sp)(E:XK)(C:Addr)(vs:List V)(H:Hp)(Q:VK):Prop:=∀e,H e=none→sp (.ref e::vs) (upd H e (xo e C none)) (fun v H2=>v=.non∧Q (.ref e) H2) E
def NewL (xs:List V)(H:Hp)(Q:VK):Prop:=∀p,H p=none→Q (.ref p) (upd H p (.lst xs))
def NewT (xs:List V)(H:Hp)(Q:VK):Prop:=∀p,H p=none→Q (.ref p) (upd H p (.tup xs))
section
variable {K:Frag}{C:Addr}{sp:Sp}{E:XK}{t:TA}{σ:St}{H:Hp}{Q:VK}{vs:List V}
theorem Zmk:ZiT K C t σ H Q=t σ H (fun vs H1=>vs.length≤1000∧Mk0 C H1 Q):=rfl
theorem Zmj:ZjQ C sp E t σ H Q=t σ H (fun vs H1=>vs.length≤1000∧MkI sp E C vs H1 Q):=rfl
theorem Zml:tLst t σ H Q=t σ H (fun xs H1=>xs.length≤sizeLine∧NewL xs H1 Q):=rfl
theorem Zmi:tTup t σ H Q=t σ H (fun xs H1=>xs.length≤sizeLine∧NewT xs H1 Q):=rfl
theorem Zmn {l b:Addr}:rCat (.ref l) (.ref b) H Q=∃xs zs,H l=some (.lst xs)∧H b=some (.lst zs)∧xs.length+zs.length≤sizeLine∧NewL (xs++zs) H Q:=
 propext ⟨fun ⟨_,_,xs,zs,e1,e2,h⟩=>by cases e1;cases e2;exact⟨xs,zs,h⟩,fun ⟨xs,zs,h⟩=>⟨l,b,xs,zs,rfl,rfl,h⟩⟩
theorem NewL.of (h:∀p H',Same H H'→H p=none→H' p=some (.lst vs)→Q (.ref p) H'):NewL vs H Q:=fun p hp=>h p _ (ZaA hp) hp Zaf
theorem NewT.of (h:∀p H',Same H H'→H p=none→H' p=some (.tup vs)→Q (.ref p) H'):NewT vs H Q:=fun p hp=>h p _ (ZaA hp) hp Zaf
theorem NewL.at (h:∀p,H p=none→Q (.ref p) (upd H p (.lst vs))):NewL vs H Q:=h
theorem NewT.at (h:∀p,H p=none→Q (.ref p) (upd H p (.tup vs))):NewT vs H Q:=h
theorem ZiL:bootBuiltins "str"=some (.type "str"):=by decide +kernel
theorem ZiM:bootBuiltins "int"=some (.type "int"):=by decide +kernel
theorem ZjE:bootBuiltins "bool"=some (.type "bool"):=by decide +kernel
theorem Zhm:bootBuiltins "list"=some (.type "list"):=by decide +kernel
theorem Zcd:bootBuiltins "tuple"=some (.type "tuple"):=by decide +kernel
theorem Zlf:bootBuiltins "set"=some (.type "set"):=by decide +kernel
theorem ZaH:bootBuiltins "len"=some (.builtin "len"):=by decide +kernel
theorem ZaR:bootBuiltins "isinstance"=some (.builtin "isinstance"):=by decide +kernel
theorem Zlg:bootBuiltins "all"=some (.builtin "all"):=by decide +kernel
theorem ZcN:bootBuiltins "sorted"=some (.builtin "sorted"):=by decide +kernel
end
def Own (K:Frag)(H:Hp)(d:DT)(x:V):Prop:=DatOk K H d x∧deq d d=true∧dep d≤60
theorem SqL.mk {K:Frag}{H:Hp}{a:Addr}{xs:List V}(h:H a=some (.lst xs)):SqL K H a xs:=.inl (.inl h)
theorem SqT.mk {K:Frag}{H:Hp}{a:Addr}{xs:List V}(h:H a=some (.tup xs)):SqT K H a xs:=.inl (.inl h)
section
variable {X:Cx}{K:Frag}
theorem Za1 (hK:X.K=K)(hu:X.A.units+64<cLine):OpR X (compareOp .Eq) (rEqD K false):=by subst hK;exact Ziv hu
theorem ZbI (hK:X.K=K)(hu:X.A.units+64<cLine):OpR X (compareOp .NotEq) (rEqD K true):=by subst hK;exact Zkn hu
theorem ZaZ (hK:X.K=K):IxR X (rIxL K):=by subst hK;exact Zjp
theorem ZgX (hK:X.K=K):IxR X (rIxT K):=by subst hK;exact ZkQ
theorem Zan (hK:X.K=K):Zb5 X (.builtin "len") (fun xs H Q=>∃x n,xs=[x]∧LenV K x H n∧Q (.int n) H):=by subst hK;exact Zik
theorem ZaW (hK:X.K=K):Zb5 X (.type "tuple") (fun xs H Q=>∃p ys,xs=[.ref p]∧((SqL K H p ys∧∀l,H l=none→Q (.ref l) (upd H l (.tup ys)))∨(SqT K H p ys∧Q (.ref p) H))):=by subst hK;exact ZdD
theorem ZbX {e:Expr}{f:Str}{pos:Pos}{ta:TE}(hK:X.K=K)(he:PE X e ta)(hb:attributeBase e f X.env (eval e X.env)=eval e X.env):PE X (.Attribute e f pos) (tFld K ta f):=by subst hK;exact Zkl he hb
theorem ZbN {tg l:Expr}{tl:TE}(hK:X.K=K)(hl:PE X l tl):PI X tg l (Zjs K tl):=by subst hK;exact Zi9 hl
theorem Zi8 {tg l:Expr}{tl:TE}(hK:X.K=K)(hl:PE X l tl):PI X tg l (iTup K tl):=by subst hK;exact Zkh hl
end
theorem cxK {CX:CXT}{P:Program}{w:World}{K:PySem.W.Frag}{mg:Str→Option Value}{base:Heap}{N:List Str}{qual:Str}{scope:Scope}{f:Addr}{cd:Value}{A:Around}{outer:List Env}{s:Shared}{H:Hp}{E:XK}:
  (cxOf CX P w K mg base N qual scope f cd A outer s H E).K=K:=rfl
theorem bxK {X:Cx}{sc:Scope}{N:List Str}{fp:List Addr}{s₀:Shared}{H:Hp}{pn:List (Addr×Obj)}:(bx X sc N fp s₀ H pn).K=X.K:=rfl
end L2
namespace L2
open PySem PySem.Spec PyProof.Rows
open PySem.W (Frag)
def ForRun (J:It)(g:TG)(tb:TS)(D:Ends)(σ:St)(H:Hp):Prop:=∃W:Nat→Nat→St→Hp→Prop,(∃m,W 0 m σ H)∧∀i m σ H,W i m σ H →
 (J.stop i H∧D.nx σ H)∨(J.go i H∧∃N:St→Hp→Prop,(∀σ' H',N σ' H'→∃m',m'<m∧W (i+1) m' σ' H')∧∀x H',J.yld i H x H'→g x σ H' fun σ2 H2=>tb { D with nx:=N,ct:=N,bk:=D.nx } σ2 H2)
theorem Zmm {wi:TI}{g:TG}{tb:TS}{D:Ends}{σ:St}{H:Hp}:tFor wi g tb D σ H=wi σ H fun J H1=>ForRun J g tb D σ H1:=rfl
def CompRun (J:It)(τ0:St)(g:TG)(tt:TT)(te:TE)(H1:Hp)(Q:VK):Prop:=∀acc,H1 acc=none→∃W:Nat→Nat→St→Hp→Prop,(∃m,W 0 m τ0 (upd H1 acc (.lst []))) ∧
 ∀i m τ H2,W i m τ H2→(J.stop i H2∧Q (.ref acc) H2)∨(J.go i H2∧∃Nx:St→Hp→Prop,(∀τ' H',Nx τ' H'→∃m',m'<m∧W (i+1) m' τ' H') ∧
  ∀x H3,J.yld i H2 x H3→g x τ H3 fun τ2 H4=>tt τ2 H4 fun b H5=>if b=true then te τ2 H5 fun y H6=>∃ys,H6 acc=some (.lst ys)∧ys.length<sizeLine∧Nx τ2 (upd H6 acc (.lst (ys++[y]))) else Nx τ2 H5)
theorem Zkf {ix:List (Option Nat)}{wi:TI}{g:TG}{tt:TT}{te:TE}{σ:St}{H:Hp}{Q:VK}:ZiV ix wi g tt te σ H Q=wi σ H fun J H1=>CompRun J (pick ix σ) g tt te H1 Q:=rfl
section
variable {g:TG}{tb:TS}{D:Ends}{σ:St}{H:Hp}{K:Frag}{a:Addr}{xs:List V}
theorem ForRun.list (Pv:Nat→St→Hp→Prop)(h0:Pv 0 σ H)(hl:∀i σ H,i≤xs.length→Pv i σ H→SqL K H a xs)
  (hs:∀i x σ H,xs[i]?=some x→Pv i σ H→g x σ H fun σ2 H2=>tb { D with nx:=Pv (i+1),ct:=Pv (i+1),bk:=D.nx } σ2 H2) (hd:∀σ H,Pv xs.length σ H→D.nx σ H):ForRun (Itl K a) g tb D σ H:=
 Zib Pv h0 hl hs hd
theorem ForRun.range {lo:Int}{n:Nat}(Pv:Nat→St→Hp→Prop)(h0:Pv 0 σ H)
  (hs:∀i σ H,i<n→Pv i σ H→g (.int (lo+i)) σ H fun σ2 H2=>tb { D with nx:=Pv (i+1),ct:=Pv (i+1),bk:=D.nx } σ2 H2) (hd:∀σ H,Pv n σ H→D.nx σ H):
  ForRun (Itr lo n) g tb D σ H:=Zg5 Pv h0 hs hd
theorem ForRun.text {l:List Nat}(Pv:Nat→St→Hp→Prop)(h0:Pv 0 σ H)
  (hs:∀i c σ H,l[i]?=some c→Pv i σ H→g (tx [c]) σ H fun σ2 H2=>tb { D with nx:=Pv (i+1),ct:=Pv (i+1),bk:=D.nx } σ2 H2) (hd:∀σ H,Pv l.length σ H→D.nx σ H):
  ForRun (Its l) g tb D σ H:=Zia Pv h0 hs hd
end
section
variable {tt:TT}{te:TE}{Q:VK}{τ0:St}{H:Hp}
theorem CompRun.gen {J:It}{n:Nat}(v:Nat→V)(b:Nat→Bool)(f:Nat→V)(hz:n≤1000)(hgo:∀i H',i<n→Same H H'→J.go i H')(hst:∀H',Same H H'→J.stop n H')(hy:∀i H' x H3,i<n→Same H H'→J.yld i H' x H3→H3=H'∧x=v i)
  (ht:∀i H' Q',i<n→Same H H'→(∀H'',Same H' H''→Q' (b i) H'')→tt (τ0.set 0 (some (v i))) H' Q')
  (he:∀i H' Q',i<n→b i=true→Same H H'→(∀H'',Same H' H''→Q' (f i) H'')→te (τ0.set 0 (some (v i))) H' Q')
  (hQ:∀p H',Same H H'→H p=none→H' p=some (.lst (((List.range n).filter b).map f))→Q (.ref p) H'):CompRun J τ0 (Zb1 0) tt te H Q:=by
 intro acc ha
 refine⟨fun i m τ H2=>i≤n∧m=n-i∧(∀w:Option V,τ.set 0 w=τ0.set 0 w)∧Same H H2∧H2 acc=some (.lst (((List.range i).filter b).map f)),⟨n,Nat.zero_le _,rfl,fun _=>rfl,ZaA ha,Zaf⟩,?_⟩
 rintro i m τ H2 ⟨hi,rfl,hτ,hs,hacc⟩
 by_cases hlt:i<n
 ·refine .inr ⟨hgo i H2 hlt hs,fun τ' H'=>(∀w:Option V,τ'.set 0 w=τ0.set 0 w)∧Same H H'∧H' acc=some (.lst (((List.range (i+1)).filter b).map f)),fun τ' H' q=>⟨n-(i+1),by omega,hlt,rfl,q⟩,fun x H3 y=>?_⟩
  obtain⟨rfl,rfl⟩:=hy i H2 x H3 hlt hs y
  show tt (τ.set 0 (some (v i))) _ _
  rw[hτ]
  have hτ':∀w:Option V,(τ0.set 0 (some (v i))).set 0 w=τ0.set 0 w:=fun w=>by rw[List.set_set]
  refine ht i _ _ hlt hs fun H4 s4=>?_
  cases hb:b i with
  | false=>
   rw[if_neg Bool.false_ne_true]
   refine⟨hτ',hs.trans s4,?_⟩
   rw[s4 _ _ hacc,List.range_succ,List.filter_append]
   simp[hb]
  | true=>
   rw[if_pos rfl]
   refine he i _ _ hlt hb (hs.trans s4) fun H5 s5=>?_
   refine⟨_,s5 _ _ (s4 _ _ hacc),?_,hτ',?_,?_⟩
   ·rw[List.length_map]
    have:=List.length_filter_le b (List.range i)
    rw[List.length_range]at this
    exact Zcj (by omega)
   ·intro c o hc
    have:c≠acc:=Zah hc ha
    rw[Zac this]
    exact s5 _ _ (s4 _ _ (hs _ _ hc))
   ·rw[Zaf,List.range_succ,List.filter_append]
    simp[hb]
 ·have e:i=n:=by omega
  subst e
  exact .inl ⟨hst H2 hs,hQ acc H2 hs ha hacc⟩
theorem CompRun.range {lo:Int}{n:Nat}(b:Nat→Bool)(f:Nat→V)(hz:n≤1000)
  (ht:∀(i:Nat) H' Q',i<n→Same H H'→(∀H'',Same H' H''→Q' (b i) H'')→tt (τ0.set 0 (some (.int (lo+i)))) H' Q')
  (he:∀(i:Nat) H' Q',i<n→b i=true→Same H H'→(∀H'',Same H' H''→Q' (f i) H'')→te (τ0.set 0 (some (.int (lo+i)))) H' Q')
  (hQ:∀p H',Same H H'→H p=none→H' p=some (.lst (((List.range n).filter b).map f))→Q (.ref p) H'):CompRun (Itr lo n) τ0 (Zb1 0) tt te H Q:=
 .gen (fun i=>.int (lo+i)) b f hz (fun i _ h _=>h) (fun _ _=>Nat.le_refl _) (fun i H' x H3 _ _ y=>y) ht he hQ
theorem filter_all {n:Nat}{f:Nat→V}:((List.range n).filter fun _=>true).map f=(List.range n).map f:=by rw[List.filter_eq_self.mpr (fun _ _=>rfl)]
theorem CompRun.text {l:List Nat}(b:Nat→Bool)(f:Nat→V)(hz:l.length≤1000)
  (ht:∀i H' Q' (h:i<l.length),Same H H'→(∀H'',Same H' H''→Q' (b i) H'')→tt (τ0.set 0 (some (tx [l.getD i 0]))) H' Q')
  (he:∀i H' Q' (h:i<l.length),b i=true→Same H H'→(∀H'',Same H' H''→Q' (f i) H'')→te (τ0.set 0 (some (tx [l.getD i 0]))) H' Q')
  (hQ:∀p H',Same H H'→H p=none→H' p=some (.lst (((List.range l.length).filter b).map f))→Q (.ref p) H'):CompRun (Its l) τ0 (Zb1 0) tt te H Q:=
 .gen (fun i=>tx [l.getD i 0]) b f hz (fun i _ h _=>h) (fun _ _=>Nat.le_refl _) (fun i H' x H3 _ _ y=>by
  obtain⟨e,c,hc,rfl⟩:=y
  refine⟨e,?_⟩
  rw[List.getD_eq_getElem?_getD,hc];rfl) ht he hQ
end
theorem Zee:∀ {vs:List V},vs.all Zbp=true→deqs (vs.map DT.f) (vs.map DT.f)=true
 | [],_=>by unfold deqs;rfl
 | v::vs,h=>by
  rw[List.all_cons,Bool.and_eq_true]at h
  rw[List.map_cons]
  unfold deqs
  rw[Zee h.2]
  unfold deq
  rw[Zfp h.1]
  rfl
theorem ownL {K:Frag}{H:Hp}{a:Addr}{vs:List V}(h:SqL K H a vs)(hf:vs.all Zbp=true):Own K H (.l (vs.map DT.f)) (.ref a):=⟨datL h hf,by unfold deq;exact Zee hf,by unfold dep;rw[Zhd];decide⟩
end L2
namespace L2
open PySem PySem.Spec PyProof.Rows
theorem Zlk {t:SetTable}{n:Nat}:(t.orStandIn n).led=t.led∧((t.orStandIn n).plain=true→t.plain=true):=by
 unfold SetTable.orStandIn
 split
 ·exact⟨rfl,id⟩
 ·exact⟨rfl,fun h=>by cases h⟩
theorem ZjP {t:SetTable}{es:Array (Int×Value)}{h:Int}{x:Value}:(layNew t es h x).2.1.led=t.led∧((layNew t es h x).2.1.plain=true→t.plain=true):=by
 unfold layNew
 split
 ·rename_i slot wd _
  exact Zlk (t:=(t.put slot).1)
 ·exact⟨rfl,fun h=>by cases h⟩
theorem ZiS {mask finger moves:Nat}{led plain:Bool}{hs:Array Int}{t':SetTable}{order:Array Nat}(e:SetTable.laid mask finger moves led plain hs=some (t',order)):t'.led=led∧t'.plain=plain:=by
 unfold SetTable.laid at e
 cases hq:SetTable.layClean mask hs with
 | none=>rw[hq]at e;cases e
 | some ow=>
  rw[hq]at e
  have e':=Option.some.inj e
  obtain⟨z,_⟩:=Prod.mk.inj e'
  subst z
  exact⟨rfl,rfl⟩
theorem Zht {t:SetTable}{es:Array (Int×Value)}{n:Nat}:(relayAll t es n).2.1.led=t.led∧((relayAll t es n).2.1.plain=true→t.plain=true):=by
 unfold relayAll
 split
 ·rename_i t' order q
  obtain⟨h1,h2⟩:=ZiS q
  dsimp only
  split
  ·exact⟨h1,fun h=>by rw[←h2];exact h⟩
  ·exact⟨rfl,fun h=>by cases h⟩
 ·exact⟨rfl,fun h=>by cases h⟩
def TxSet (P:Program)(w:World)(h:Heap)(a:Addr)(ls:List (List Nat))(led:Bool):Prop:=
 ∃(o:Obj) (es:Array (Int×Value)) (ep:Nat) (t:SetTable) (ms:List (List Nat)),h.get? a=some o∧o.ExactSet∧o.data=.set es ep t∧ElemsOf (Zap P w) es.toList∧t.fits es.size=true ∧
  t.led=led∧(t.plain=true→es.size=0)∧ms.Perm ls∧Vals (ms.map tx) (es.toList.map (·.2))∧es.size<scanBound
theorem TxSet.keep {P:Program}{w:World}{h h':Heap}{a:Addr}{ls:List (List Nat)}{led:Bool}(x:TxSet P w h a ls led)(k:∀o,h.get? a=some o→h'.get? a=some o):TxSet P w h' a ls led:=by
 obtain⟨o,es,ep,t,ms,h1,r⟩:=x
 exact⟨o,es,ep,t,ms,k o h1,r⟩
theorem TxSet.typ {P:Program}{w:World}{s:Shared}{a:Addr}{ls:List (List Nat)}{led:Bool}(x:TxSet P w s.heap a ls led):s.TypeIs (.ref a) "set":=by
 obtain⟨o,es,ep,t,ms,h1,h2,_⟩:=x
 exact⟨o,h1,h2.1⟩
def addT (ls:List (List Nat))(l:List Nat):List (List Nat):=if l∈ls then ls else ls++[l]
theorem ZmJ {l:List Nat}{v:V}{u:Value}(r:RelV v u)(hv:∃m,v=tx m):Zdu (Sum.inr (⟨l.toArray⟩:Str):Key) u=decide (v=tx l):=by
 obtain⟨m,rfl⟩:=hv
 obtain⟨t,rfl⟩:=r
 rw[Zft]
 simp only[Zdu,Value.isStrOf]
 by_cases h:m=l
 ·subst h;simp
 ·have:¬(⟨m.toArray⟩:Str)=⟨l.toArray⟩:=fun e=>h (ZdH.mp (congrArg V.str e))
  rw[decide_eq_false h]
  simp[this]
theorem ZeW {l:List Nat}:∀ {ms:List (List Nat)} {es:List (Int×Value)},Vals (ms.map tx) (es.map (·.2))→((∃e∈es,Zdu (Sum.inr (⟨l.toArray⟩:Str):Key) e.2=true)↔l∈ms)
 | [],[],_=>by simp
 | [],_::_,r=>by cases r
 | _::_,[],r=>by cases r
 | m::ms,e::es,r=>by
  cases r with
  | cons r1 r2=>
   have ih:=ZeW (l:=l) r2
   have q:=ZmJ (l:=l) r1 ⟨m,rfl⟩
   rw[Zft]at q
   constructor
   ·rintro⟨x,hx,hk⟩
    rcases List.mem_cons.mp hx with z | z
    ·subst z
     rw[q]at hk
     exact List.mem_cons.mpr (.inl (of_decide_eq_true hk).symm)
    ·exact List.mem_cons.mpr (.inr (ih.mp ⟨x,z,hk⟩))
   ·intro h
    rcases List.mem_cons.mp h with z | z
    ·exact⟨e,List.mem_cons_self,by rw[q];exact decide_eq_true z.symm⟩
    ·obtain⟨x,hx,hk⟩:=ih.mpr z
     exact⟨x,List.mem_cons_of_mem _ hx,hk⟩
theorem Zce {us us':List Value}(p:us'.Perm us):∀ {ms:List (List Nat)},Vals (ms.map tx) us→∃ms':List (List Nat),ms'.Perm ms∧Vals (ms'.map tx) us':=by
 induction p with
 | nil=>intro ms r;exact⟨ms,.refl _,r⟩
 | cons x _ ih=>
  intro ms r
  cases ms with
  | nil=>cases r
  | cons m ms=>
   cases r with
   | cons r1 r2=>
    obtain⟨ms',p',r'⟩:=ih r2
    exact⟨m::ms',p'.cons _,.cons r1 r'⟩
 | swap x y l=>
  intro ms r
  match ms,r with
  | m1::m2::ms,.cons r1 (.cons r2 r3)=>exact⟨m2::m1::ms,.swap _ _ _,.cons r2 (.cons r1 r3)⟩
 | trans _ _ ih1 ih2=>
  intro ms r
  obtain⟨m1,p1,r1⟩:=ih2 r
  obtain⟨m2,p2,r2⟩:=ih1 r1
  exact⟨m2,p2.trans p1,r2⟩
section
variable {prog:Program}{w:World}{A:Around}{E:Value→Shared→Prop}{s:Shared}
theorem Ze3 {g:Bool→Sem Unit}(hg:∀(b:Bool) (s₁:Shared) (Q':Unit→Shared→Prop),Q' () s₁→wpAny (model prog w) A (g b) Q' E s₁){a:Addr}{o:Obj}{es:Array (Int×Value)}{ep:Nat}{t:SetTable}
  (ho:s.heap.get? a=some o) (hd:o.data=.set es ep t) {e1:Array (Int×Value)} {t2:SetTable} (hb:e1.size<scanBound) (hf:t2.fits e1.size=true) {wd:Bool} {R:Option Bool→Shared→Prop}
  (h:∀h' e2 t3 ep',Heap.SameBut a s.heap h'→h'.get? a=some { o with data:=.set e2 ep' t3 }→e2.toList.Perm e1.toList→t3.fits e2.size=true→t3.led=t2.led→(t3.plain=true→t2.plain=true)→R (some true) { s with heap:=h' }):
  wpAny (model prog w) A (do
   storeSet a e1 t2
   if (!wd&&t2.tooFull)=true then do
    g (relayAll t2 e1 (SetTable.grown e1.size)).2.2;storeSet a (relayAll t2 e1 (SetTable.grown e1.size)).1 (relayAll t2 e1 (SetTable.grown e1.size)).2.1;pure (some true)
   else pure (some true)) R E s:=by
 have put:∀ {h:Heap} {ob:Obj} {xs ys:Array (Int×Value)} {n:Nat} {t t':SetTable},h.get? a=some ob→ob.data=.set xs n t→(h.update a (Obj.putSet ys t')).get? a=some { ob with data:=.set ys (n+1) t' }:=fun {h ob xs ys n t t'} h1 h2=>by
  have q:=Heap.get?_update_self (Obj.putSet ys t') h1 (by rw[putSet_of ys t' h2];rfl)
  rwa [putSet_of ys t' h2]at q
 have hs1:=Heap.SameBut.update s.heap a (Obj.putSet e1 t2)
 have g1:=put (ys:=e1) (t':=t2) ho hd
 refine wpAny_bind (wpAny_storeSet_of ho hd ?_ (fits_of_scanBound hb))
 split
 ·have p:=relayAll_perm t2 e1 (SetTable.grown e1.size)
  have f:=relayAll_fits t2 e1 (SetTable.grown e1.size)
  have tm:=Zht (t:=t2) (es:=e1) (n:=SetTable.grown e1.size)
  have z:(relayAll t2 e1 (SetTable.grown e1.size)).1.size=e1.size:=by rw[←Array.length_toList,p.length_eq,Array.length_toList]
  refine wpAny_bind (hg _ _ _ (wpAny_bind (wpAny_storeSet_of g1 rfl (wpAny_pure ?_) (fits_of_scanBound (by rw[z];exact hb)))))
  exact h _ _ _ _ (hs1.trans (Heap.SameBut.update _ a _)) (put (ob:={ o with data:=.set e1 (ep+1) t2 }) g1 rfl) p f tm.1 tm.2
 ·exact wpAny_pure (h _ _ _ _ hs1 g1 (.refl _) hf rfl id)
theorem ZiZ {a:Addr}{ls:List (List Nat)}{led:Bool}{l:List Nat}{tk:Tok}{Q:Bool→Shared→Prop}(hS:TxSet prog w s.heap a ls led)(hn:ls.length+1<scanBound)
  (h:∀h' b,Heap.SameBut a s.heap h'→TxSet prog w h' a (addT ls l) led→Q b { s with heap:=h' }):
  wpAny (model prog w) A (setAddHashed a (.str ⟨l.toArray⟩ tk) (keyH w (Sum.inr ⟨l.toArray⟩))) Q E s:=by
 obtain⟨o,es,ep,t,ms,ho,hex,hd,hel,hf,hled,hpl,hp,hv,hb⟩:=hS
 have hkey:(Zap prog w).is (Sum.inr (⟨l.toArray⟩:Str)) (.str ⟨l.toArray⟩ tk)=true:=by
  exact Zct prog w _ _
 have hsc:(Value.str ⟨l.toArray⟩ tk).scannable=true:=rfl
 have hlen:es.size=ls.length:=by
  have q:=hv.length
  rw[List.length_map,List.length_map]at q
  rw[←Array.length_toList,←q,hp.length_eq]
 have mem:=ZeW (l:=l) hv
 have hl:l∈ms↔l∈ls:=hp.mem_iff
 unfold setAddHashed setAddHashedIn
 refine wpAny_holding (wpAny_bind (wpAny_setState_of ho hd hf ?_))
 dsimp only
 rw[byScan_of hsc hb hel,if_pos rfl]
 unfold setAddByScan
 refine wpAny_bind (wpAny_bind (wpAny_rule (wpAny_bind (wpAny_setScan_of (knd:=Zap prog w) (k:=Sum.inr (⟨l.toArray⟩:Str)) hkey ho hd hf hel ?_))))
 cases hr:List.findIdx? (fun e=>(Zap prog w).is (Sum.inr (⟨l.toArray⟩:Str)) e.2) es.toList with
 | some j=>
  dsimp only
  obtain⟨hj,hpj,_⟩:=List.findIdx?_eq_some_iff_getElem.mp hr
  have hin:l∈ls:=hl.mp (mem.mp ⟨es.toList[j],List.getElem_mem hj,hpj⟩)
  refine wpAny_pure (wpAny_pure ?_)
  have q:=h s.heap false (Heap.SameBut.refl a s.heap) (by
   unfold addT
   rw[if_pos hin]
   exact⟨o,es,ep,t,ms,ho,hex,hd,hel,hf,hled,hpl,hp,hv,hb⟩)
  exact q
 | none=>
  dsimp only
  have hnin:l∉ls:=fun z=>by
   obtain⟨e,he,hk⟩:=mem.mpr (hl.mpr z)
   have q:=List.findIdx?_eq_none_iff.mp hr e he
   rw[show (Zap prog w).is (Sum.inr (⟨l.toArray⟩:Str)) e.2=true from hk]at q
   cases q
  have lp:=layNew_perm t es (keyH w (Sum.inr ⟨l.toArray⟩)) (.str ⟨l.toArray⟩ tk)
  have lf:=layNew_fits t es (keyH w (Sum.inr ⟨l.toArray⟩)) (.str ⟨l.toArray⟩ tk)
  have lt:=ZjP (t:=t) (es:=es) (h:=keyH w (Sum.inr ⟨l.toArray⟩)) (x:=.str ⟨l.toArray⟩ tk)
  show wpAny _ A (match layNew t es (keyH w (Sum.inr ⟨l.toArray⟩)) (.str ⟨l.toArray⟩ tk) with | (es,t,wasDummy,gave)=>_) _ _ _
  generalize hL:layNew t es (keyH w (Sum.inr ⟨l.toArray⟩)) (.str ⟨l.toArray⟩ tk)=L at lp lf lt ⊢
  obtain⟨e1,t1,wd,gave⟩:=L
  dsimp only at lp lf lt ⊢
  rw[Array.toList_push]at lp
  have sz1:e1.size=ls.length+1:=by rw[←Array.length_toList,lp.length_eq,List.length_append,Array.length_toList,hlen];rfl
  have gw:∀(b:Bool) (s₁:Shared) (Q':Unit→Shared→Prop),Q' () s₁→wpAny (model prog w) A (match b with | true=>rule "set.scan.the-table-gave-way" | false=>pure ()) Q' E s₁:=
   fun b s₁ Q' hq=>by cases b<;>first | exact wpAny_pure hq | exact wpAny_rule hq
  refine wpAny_bind (gw _ _ _ ?_)
  have fin:∀(t2:SetTable),t2.fits e1.size=true→t2.led=t1.led→t2.plain=false→∀h' e2 t3 ep',Heap.SameBut a s.heap h'→h'.get? a=some { o with data:=.set e2 ep' t3 }→e2.toList.Perm e1.toList→t3.fits e2.size=true→t3.led=t2.led→(t3.plain=true→t2.plain=true)→Q true { s with heap:=h' }:=by
   intro t2 f2 l2 p2 h' e2 t3 ep' sb hg pm f3 l3 p3
   refine h h' true sb ?_
   have pall:=pm.trans lp
   obtain⟨ms',pm',hv'⟩:=Zce (us:=(es.toList++[(keyH w (Sum.inr ⟨l.toArray⟩),Value.str ⟨l.toArray⟩ tk)]).map (·.2)) (us':=e2.toList.map (·.2)) (pall.map _) (ms:=ms++[l]) (by
    rw[List.map_append,List.map_append]
    exact hv.append (.cons ⟨tk,rfl⟩ .nil))
   unfold addT
   rw[if_neg hnin]
   refine⟨_,e2,ep',t3,ms',hg,hex,rfl,((hel.push (knd:=Zap prog w) hkey hsc).perm pall),f3,l3.trans (l2.trans (lt.1.trans hled)),fun z=>by rw[p2]at p3;exact absurd (p3 z) Bool.false_ne_true,pm'.trans (hp.append_right [l]),hv',?_⟩
   rw[←Array.length_toList,pm.length_eq,Array.length_toList,sz1]
   exact hn
  split
  ·refine wpAny_bind ?_
   rw[hashByValue_scannable 8 hsc]
   refine wpAny_pure ?_
   refine Ze3 gw ho hd (by rw[sz1];exact hn) ?_ fun h' e2 t3 ep' q1 q2 q3 q4 q5 q6=>?_
   ·exact SetTable.fits_plain_off lf
   ·exact wpAny_pure (fin _ (SetTable.fits_plain_off lf) rfl rfl h' e2 t3 ep' q1 q2 q3 q4 q5 q6)
  ·rename_i hnp
   have hnp':t1.plain=false:=by simpa using hnp
   refine wpAny_bind (wpAny_pure ?_)
   rw[if_pos rfl]
   refine Ze3 gw ho hd (by rw[sz1];exact hn) lf fun h' e2 t3 ep' q1 q2 q3 q4 q5 q6=>wpAny_pure (fin _ lf rfl hnp' h' e2 t3 ep' q1 q2 q3 q4 q5 q6)
end
def dd (val:Nat→List Nat)(i:Nat):List (List Nat):=((List.range i).map val).foldl addT []
theorem ZeM {val:Nat→List Nat}{i:Nat}:dd val (i+1)=addT (dd val i) (val i):=by
 unfold dd
 rw[List.range_succ,List.map_append,List.foldl_append]
 rfl
theorem Zio {ls:List (List Nat)}{l:List Nat}:(addT ls l).length≤ls.length+1:=by
 unfold addT
 split
 ·omega
 ·simp
theorem ZiI {val:Nat→List Nat}:∀i,(dd val i).length≤i
 | 0=>Nat.le_refl _
 | i+1=>by
  rw[ZeM]
  have h1:=ZiI (val:=val) i
  have h2:=Zio (ls:=dd val i) (l:=val i)
  omega
theorem Zdz {val:Nat→List Nat}:∀i,(dd val i).Nodup
 | 0=>by simp[dd]
 | i+1=>by
  rw[ZeM]
  unfold addT
  split
  ·exact Zdz i
  ·rename_i h
   rw[List.nodup_append]
   refine⟨Zdz i,by simp,?_⟩
   intro a ha b hb e
   have:b=val i:=by simpa using hb
   subst e this
   exact h ha
section
variable {prog:Program}{w:World}{A:Around}{R:Result→Shared→Prop}{I:Addr}{fp wr:List Addr}{G:Array GenState→Array GenState→Prop}{n:Nat}{Pi:Nat→Value→Prop}{St:Nat→Shared→Prop}
theorem Zhz (W:WalksS prog w A.in1 I fp wr G n Pi St)(S:Addr)(hSf:S∉fp)(val:Nat→List Nat)(hval:∀i v,Pi i v→∃t,v=.str ⟨(val i).toArray⟩ t)(hb:n+1<scanBound){led:Bool}:
  ∀(k i:Nat) (s:Shared),n-i=k→i≤n→St i s→TxSet prog w s.heap S (dd val i) led→(∀s',Moved (S::wr) G s s'→TxSet prog w s'.heap S (dd val n) led→R (.ok (.ret .none)) s') →
   codeAny (model prog w) A (.builtin "set.update.loop" ⟨[.ref S,.ref I],[]⟩) R s:=by
 have nw:S∉wr:=fun h=>hSf (W.sub _ h)
 have up:∀b∈wr,b∈S::wr:=fun b hb=>List.mem_cons_of_mem _ hb
 intro k
 induction k with
 | zero=>
  intro i s hk hi st hS hR
  have e:i=n:=by omega
  subst e
  refine codeAny_builtin F.entry_set_update_loop ?_
  rw[Around.under_plainId F.plain_set_update_loop _]
  show wpAny _ A.in1 (pyNext (.ref I) >>= fun r=>_) _ _ s
  refine wpAny_bind (W.done s _ _ st fun s' hm=>?_)
  exact wpAny_pure (hR s' (hm.mono up) (hS.keep fun o e=>hm.heap S o nw e))
 | succ k ih=>
  intro i s hk hi st hS hR
  have hlt:i<n:=by omega
  refine codeAny_builtin F.entry_set_update_loop ?_
  rw[Around.under_plainId F.plain_set_update_loop _]
  show wpAny _ A.in1 (pyNext (.ref I) >>= fun r=>_) _ _ s
  refine wpAny_bind (W.item i s _ _ hlt st fun v s1 hP st1 hm=>?_)
  obtain⟨tk,rfl⟩:=hval i v hP
  have hS1:TxSet prog w s1.heap S (dd val i) led:=hS.keep fun o e=>hm.heap S o nw e
  show wpAny _ A.in1 (holding [Value.str ⟨(val i).toArray⟩ tk] (setAdd S (.str ⟨(val i).toArray⟩ tk)) >>= fun _=>_) _ _ s1
  refine wpAny_bind (wpAny_holding ?_)
  unfold setAdd
  refine wpAny_holding (wpAny_bind (wpAny_pyHash_str ?_))
  refine ZiZ (s:={ s1 with toks:=s1.toks+1 }) (l:=val i) hS1 (by have:=ZiI (val:=val) i;omega) fun h' b sb hS2=>?_
  rw[←ZeM]at hS2
  refine wpAny_pure ⟨plainId_quiet F.plain_set_update_loop _,ih (i+1) _ (by omega) hlt (W.frame _ s1 _ _ st1 (Nat.le_succ _) fun b hb o e=>(sb.2 b fun z=>hSf (z▸hb)).trans e) hS2 fun s2 hm2 hS3=>?_⟩
  exact hR s2 (Moved.trans W.gtrans ((hm.mono up).then_heap (Nat.le_succ _) fun b o hb e=>(sb.2 b fun z=>hb (z▸List.mem_cons_self)).trans e) hm2) hS3
end
theorem Zgb {i:Nat}{u:Value}:∀ {vs:List V} {us:List Value} ,Vals vs us→us[i]?=some u→∃v,vs[i]?=some v∧RelV v u:=by
 induction i with
 | zero=>
  intro vs us r e
  cases r with
  | nil=>cases e
  | cons r1 _=>cases e;exact⟨_,rfl,r1⟩
 | succ i ih=>
  intro vs us r e
  cases r with
  | nil=>cases e
  | cons _ r2=>exact ih r2 e
structure Walked (prog:Program)(w:World)(x:Value)(s:Shared)(T:String)(n:Nat)(val:Nat→List Nat):Prop where
 ty:∀s1:Shared,(∀b o,s.heap.get? b=some o→s1.heap.get? b=some o)→s1.TypeIs x T
 go:∀(A:Around) (s1:Shared) (Q:Value→Shared→Prop) (E:Value→Shared→Prop),A.handled=none→(∀b o,s.heap.get? b=some o→s1.heap.get? b=some o) →
  (∀(h2:Heap) (I:Addr) (fp wr:List Addr) (Pi:Nat→Value→Prop) (St:Nat→Heap→Prop),(∀A':Around,A'.handled=none→Walks prog w A' I fp wr n Pi St)→St 0 h2 →
   (∀b∈fp,b<s.heap.objs.size∨s1.heap.objs.size≤b)→(∀b∈wr,s1.heap.objs.size≤b)→(∀b o,s1.heap.get? b=some o→h2.get? b=some o)→(∀i v,Pi i v→∃t,v=.str ⟨(val i).toArray⟩ t)→Q (.ref I) { s1 with heap:=h2 }) →
  wpAny (model prog w) A (pyIter x) Q E s1
theorem Zer {prog:Program}{w:World}{s:Shared}{l:Addr}{us:List Value}{ls:List (List Nat)}(hl:s.heap.IsList l us.toArray)(r:Vals (ls.map tx) us):Walked prog w (.ref l) s "list" ls.length (fun i=>ls.getD i []) where
 ty:=fun s1 k=>by
  obtain⟨o,ho,hc,_⟩:=hl
  exact⟨o,k _ _ ho,hc⟩
 go:=fun A s1 Q E hh k h=>by
  obtain⟨o,ho,hc,hr⟩:=id hl
  have hl1:s1.heap.IsList l us.toArray:=⟨o,k _ _ ho,hc,hr⟩
  have hlt:=Heap.lt_size ho
  have hlt1:=Heap.lt_size (k _ _ ho)
  have hlen:us.toArray.size=ls.length:=by rw[List.size_toArray,←r.length,List.length_map]
  refine wpAny_pyIter_list hl1 ?_
  have W:∀A':Around,A'.handled=none→Walks prog w A' s1.heap.objs.size [s1.heap.objs.size,l] [s1.heap.objs.size] ls.length (fun i v=>us.toArray[i]?=some v) (fun i h=>h.IsListIter s1.heap.objs.size l i∧h.IsList l us.toArray):=fun A' hA=>by
   have q:=Walks.list (prog:=prog) (w:=w) hA s1.heap.objs.size l (Nat.ne_of_lt hlt1) us.toArray
   rwa [hlen]at q
  refine h _ _ _ _ _ _ W ⟨⟨_,Heap.get?_push_size _ rfl,rfl,rfl⟩,hl1.push _⟩ (fun b hb=>?_) (fun b hb=>?_) (fun b o e=>Heap.get?_push_of_some _ e) (fun i v e=>?_)
  ·rcases List.mem_cons.mp hb with z | z
   ·exact .inr (Nat.le_of_eq z.symm)
   ·have z:b=l:=by simpa using z
    rw[z];exact .inl hlt
  ·have z:b=s1.heap.objs.size:=by simpa using hb
   exact Nat.le_of_eq z.symm
  ·have e':us[i]?=some v:=by simpa using e
   obtain⟨v',hv',rv⟩:=Zgb r e'
   rw[List.getElem?_map]at hv'
   cases q:ls[i]? with
   | none=>rw[q]at hv';cases hv'
   | some m=>
    rw[q]at hv'
    cases hv'
    obtain⟨t,rfl⟩:=rv
    exact⟨t,by rw[List.getD_eq_getElem?_getD,q];rfl⟩
theorem Zeq {prog:Program}{w:World}{s:Shared}{l:List Nat}{t:Tok}:Walked prog w (.str ⟨l.toArray⟩ t) s "str" l.length (fun i=>[l.getD i 0]) where
 ty:=fun s1 _=>typeIs_str s1 _ _
 go:=fun A s1 Q E hh k h=>by
  have hlen:(⟨l.toArray⟩:Str).cps.size=l.length:=by show l.toArray.size=_;simp
  have item:∀(i:Nat) (v:Value),(∃c u,(⟨l.toArray⟩:Str).cps[i]?=some c∧v=.str ⟨#[c]⟩ u)→∃t,v=.str ⟨[l.getD i 0].toArray⟩ t:=by
   rintro i v ⟨c,u,e,rfl⟩
   have e':l[i]?=some c:=by simpa using e
   exact⟨u,by rw[List.getD_eq_getElem?_getD,e'];rfl⟩
  refine wpAny_pyIter_str fun o St W st=>?_
  rw[hlen]at W
  refine h _ _ _ _ _ _ W st (fun b hb=>.inr ?_) (fun b hb=>?_) (fun b o e=>Heap.get?_push_of_some _ e) (fun i v ⟨c,u,e,e2⟩=>item i v ⟨c,u,e,e2⟩)
  ·have z:b=s1.heap.objs.size:=by simpa using hb
   exact Nat.le_of_eq z.symm
  ·have z:b=s1.heap.objs.size:=by simpa using hb
   exact Nat.le_of_eq z.symm
section
variable {prog:Program}{w:World}{A:Around}{E:Value→Shared→Prop}{s:Shared}
abbrev Zd1 (led:Bool):Obj:={ cls:=.type "set",dict:=none,data:=.set #[] 0 (.fresh 0 0 led) }
theorem Zgc {h:Heap}{a:Addr}{led:Bool}(ho:h.get? a=some (Zd1 led)):TxSet prog w h a [] led:=
 ⟨_,#[],0,_,[],ho,⟨rfl,rfl,rfl⟩,rfl,fun e he=>by simp at he,rfl,rfl,fun _=>rfl,.refl _,.nil,by show 0<4096;decide⟩
def ZaS (w:World):Bool:=w.params.followText "set-order"
theorem ZiX (a:Value){Q₁:Value→Shared→Prop}(h:Q₁ (.ref s.heap.objs.size) { s with heap:=s.heap.push (Zd1 (!ZaS w)) }):
  codeAny (model prog w) A (.call (.builtin "set.__new__") ⟨[.type "set",a],[]⟩) (wants Q₁ E) s:=by
 refine codeAny_of_tree ?_
 show wpAny _ A.in1 (checkBuiltinCall "set.__new__" ⟨[.type "set",a],[]⟩ >>= fun _=>again (.builtin "set.__new__" ⟨[.type "set",a],[]⟩)) _ _ s
 refine wpAny_bind (wpAny_of_eq (F.newCall_set_1 a) (wpAny_pure ⟨plainId_quiet F.plain_set_new _,codeAny_builtin F.entry_set_new ?_⟩))
 rw[Around.under_plainId F.plain_set_new _]
 unfold Builtin.«set.__new__» Builtin.Frozenset.newClass
 have hsub:=sub_set_self
 obtain⟨hp,g,d,tk,os⟩:=s
 dsimp only
 wp_walk
 refine wpAny_askSetting (wpAny_pure ?_)
 dsimp only
 simp only[newObj]
 exact wpAny_bind (wpAny_alloc (wpAny_pure (wpAny_pure h)))
set_option maxHeartbeats 3200000 in
theorem Ze4 {x:Value} {T:String} {n:Nat} {val:Nat→List Nat} {Q:Value→Shared→Prop} (hh:A.handled=none) (W:Walked prog w x s T n val) (t1:isSubtype (.type T) (.type "set")=pure false) (t2:isSubtype (.type T) (.type "frozenset")=pure false)
  (t3:(Value.type T == Value.type "dict")=false) (hb:n+1<scanBound)
  (h:∀(h':Heap) (tk:Nat),TxSet prog w h' s.heap.objs.size (dd val n) (!ZaS w)→(∀b o,s.heap.get? b=some o→h'.get? b=some o)→s.toks≤tk→Q (.ref s.heap.objs.size) { s with heap:=h',toks:=tk }):
  wpAny (model prog w) A (call (.type "set") [x]) Q E s:=by
 obtain⟨c,tl,hmro⟩:=F.called_set.mro
 have hmade:=F.called_set.made
 have hsub:=F.called_set.sub
 refine wpAny_call (codeAny_of_tree ?_)
 show wpAny _ _ (callAny (.type "set") _) _ _ _
 refine wpAny_pure ⟨Code.quiet_builtin _ (by decide +kernel),codeAny_builtin F.entry_type_call ?_⟩
 rw[Around.under_plain (weight_type_call_type "set" [x] []) rfl]
 have h1:=F.called_set.notType
 have h2:=F.called_set.canCreate
 have hct:=F.typeCall_set_1 x
 repeat (any_goals (first | assumption | wp_step))
 refine codeAny_mono (ZiX x (E:=E) (Q₁:=fun ob s₁=>ob=.ref s.heap.objs.size∧s₁={ s with heap:=s.heap.push (Zd1 (!ZaS w)) }) ⟨rfl,rfl⟩) fun r s₁ hr=>?_
 cases r with
 | error e=>exact hr
 | ok fl=>
  cases fl with
  | ret ob=>
   obtain⟨rfl,rfl⟩:=hr
   have hS:(s.heap.push (Zd1 (!ZaS w))).get? s.heap.objs.size=some (Zd1 (!ZaS w)):=Heap.get?_push_size _ rfl
   have hT:Shared.TypeIs { s with heap:=s.heap.push (Zd1 (!ZaS w)) } (.ref s.heap.objs.size) "set":=⟨_,hS,rfl⟩
   have hli:=F.called_set.init.lookup
   have hbi:=F.called_set.init.bind (.ref s.heap.objs.size)
   have keep1:∀b o,s.heap.get? b=some o→(s.heap.push (Zd1 (!ZaS w))).get? b=some o:=fun b o e=>Heap.get?_push_of_some _ e
   repeat (any_goals (first | assumption | wp_step))
   refine codeAny_mono (codeAny_call_builtin (R:=wants (fun r s₂=>r=.none∧∃h' tk,s₂={ s with heap:=h',toks:=tk }∧TxSet prog w h' s.heap.objs.size (dd val n) (!ZaS w)∧(∀b o,s.heap.get? b=some o→h'.get? b=some o)∧s.toks≤tk) E)
    F.called_set.init.plain F.entry_set_init (check_set_init_1 hT ?_)) fun r₂ s₂ hr₂=>?_
   ·have hTx:=W.ty { s with heap:=s.heap.push (Zd1 (!ZaS w)) } keep1
    unfold Builtin.«set.__init__» noKeywords Builtin.Frozenset.updateFrom
    generalize hPI:pyIter=PI
    wp_walk
    subst hPI
    refine W.go _ _ _ _ (by simp[hh]) keep1 fun h2 I fp wr Pi St Wk st f1 f2 k2 hval=>?_
    refine wpAny_bind (wpAny_runValue ?_)
    have hSf:s.heap.objs.size∉fp:=fun z=>by
     rcases f1 _ z with q | q
     ·exact Nat.lt_irrefl _ q
     ·rw[Heap.size_push]at q;exact absurd q (Nat.not_succ_le_self _)
    refine Zhz ((Wk A.in1.in1.in1 (by simp[hh])).toS) s.heap.objs.size hSf val hval hb (n-0) 0 _ (by omega) (Nat.zero_le _) st (Zgc (k2 _ _ hS)) fun s' hm hS'=>?_
    obtain⟨h',g',d',tk',os'⟩:=s'
    have eg:g'=s.gens:=hm.gens
    have ed:d'=s.drawn:=hm.drawn
    have eo:os'=s.os:=hm.os
    have et:s.toks≤tk':=hm.toks
    subst eg ed eo
    refine wpAny_pure ?_
    refine wpAny_pure ⟨rfl,h',tk',rfl,hS',fun b o e=>?_,et⟩
    have hlt:=Heap.lt_size e
    refine hm.heap b o (fun z=>?_) (k2 b o (keep1 b o e))
    rcases List.mem_cons.mp z with q | q
    ·rw[q]at hlt;exact Nat.lt_irrefl _ hlt
    ·have q2:=f2 b q
     rw[Heap.size_push]at q2
     exact absurd (Nat.lt_of_lt_of_le hlt (Nat.le_of_succ_le q2)) (Nat.lt_irrefl _)
   ·cases r₂ with
    | error e=>exact hr₂
    | ok fl₂=>
     cases fl₂ with
     | ret r=>
      obtain⟨rfl,h',tk,rfl,hS',hk',htk⟩:=hr₂
      repeat (any_goals (first | assumption | wp_step))
      exact h _ _ hS' hk' htk
     | _=>exact hr₂.elim
  | _=>exact hr.elim
end
theorem Zb3 {α:Type}:∀(xs:List α) (i:Nat) (h:i<xs.length),(xs[i]::xs.eraseIdx i).Perm xs
 | x::xs,0,_=>.refl _
 | x::xs,i+1,h=>by
  have hi:i<xs.length:=by simpa using h
  have ih:=Zb3 xs i hi
  show (xs[i]::x::xs.eraseIdx i).Perm (x::xs)
  exact(List.Perm.swap _ _ _).trans (ih.cons x)
section
variable {M:Model}{A:Around}{E:Value→Shared→Prop}{s:Shared}
theorem wp_choose' {src:Source}{n:Nat}{Q:Nat→Shared→Prop}(hn:n≠0)(h:∀i d,i<n→Q i { s with drawn:=d }):wpAny M A (choose src n) Q E s:=fun Γ p hΓ=>by
 unfold choose
 rw[Sem.wp_choose]
 exact⟨hn,h _ _ (Nat.mod_lt _ (Nat.pos_of_ne_zero hn))⟩
theorem Zb6 {α:Type}:∀(n:Nat) (xs:List α) (s:Shared) (Q:List α→Shared→Prop),xs.length=n→(∀ys d,ys.Perm xs→Q ys { s with drawn:=d })→wpAny M A (drawOrder n xs) Q E s
 | 0,xs,s,Q,hl,h=>by
  have e:xs=[]:=List.eq_nil_of_length_eq_zero hl
  subst e
  unfold drawOrder
  exact wpAny_pure (h [] s.drawn (.refl _))
 | n+1,[],s,Q,hl,h=>by cases hl
 | n+1,x::xs,s,Q,hl,h=>by
  unfold drawOrder
  refine wpAny_bind (wp_choose' (by simp) fun i d hi=>?_)
  have e:(x::xs)[i]?=some (x::xs)[i]:=List.getElem?_eq_getElem hi
  rw[e]
  dsimp only
  refine wpAny_bind (Zb6 n ((x::xs).eraseIdx i) _ _ ?_ fun ys d' p=>wpAny_pure ?_)
  ·rw[List.length_eraseIdx_of_lt hi,hl];rfl
  ·refine h _ d' ((List.Perm.cons _ p).trans ?_)
   exact Zb3 _ _ hi
end
theorem ZcU:entryFor table "set.__iter__"=some Builtin.«frozenset.__iter__»:=entryFor_alias (id':="frozenset.__iter__") (by kernel_rfl) rfl (by decide +kernel) (by kernel_rfl)
theorem Zas:Slot "set_iterator" "__next__" "set_iterator.__next__":=
 .of (owner:="set_iterator") (n:="__next__") (by rw[typeLookup_type,builtinLookup_eq_fast];kernel_rfl) (by decide +kernel) (by decide +kernel) (by decide +kernel)
  (by first | exact .inl (by decide +kernel) | exact .inr (by decide +kernel)) (by rw[isSubtype_type];kernel_rfl)
theorem Za4:entryFor table "set_iterator.__next__"=some Builtin.«set_iterator.__next__»:=entryFor_of_fast (by kernel_rfl)
theorem Zbi (a:Value):argsOk "set_iterator.__next__" ⟨[a],[]⟩:=by unfold argsOk;kernel_rfl
section
variable {prog:Program}{w:World}{A:Around}{E:Value→Shared→Prop}{s:Shared}
def SetIt (h:Heap)(I S:Addr)(first:Value)(i n ep:Nat):Prop:=∃o,h.get? I=some o∧o.cls=.type "set_iterator"∧o.data=.fields #[first,.int i 0,.ref S,.int n 0,.int ep 0]
theorem Zjx {t:SetTable}{n:Nat}(hf:t.fits n=true):(t.place.size != n || decide (t.fill>t.mask))=false:=by
 simp only[SetTable.fits,Bool.and_eq_true,beq_iff_eq,decide_eq_true_eq]at hf
 simp[hf.1,Nat.not_lt.mpr hf.2]
theorem Zh7 {S:Addr}{o:Obj}{es:Array (Int×Value)}{ep:Nat}{t:SetTable}{Q:Value→Shared→Prop}(ho:s.heap.get? S=some o)(hex:o.ExactSet)(hd:o.data=.set es ep t)(hf:t.fits es.size=true)(hz:es.size≤sizeLine)
  (h0:(ZaS w=true∨(t.plain=true∨es.size≤1))→Q (.ref s.heap.objs.size) { s with heap:=s.heap.push { cls:=.type "set_iterator",data:=.fields #[.int 0 0,.int 0 0,.ref S,.int es.size 0,.int ep 0] } })
  (h1:∀(ps:List Nat) (d:Drawn),ps.Perm (List.range es.size)→Q (.ref (s.heap.objs.size+1)) { s with drawn:=d,heap:=(Heap.push s.heap { cls:=.type "tuple",data:=.seq (ps.map (fun i=>Value.int ((i:Nat):Int) 0)).toArray }).push { cls:=.type "set_iterator",data:=.fields #[.ref s.heap.objs.size,.int 0 0,.ref S,.int es.size 0,.int ep 0] } }):wpAny (model prog w) A (pyIter (.ref S)) Q E s:=by
 have hT:s.TypeIs (.ref S) "set":=⟨o,ho,hex.1⟩
 refine wpAny_pyIter_slot hT F.slot_set_iter (wpAny_call_entry F.slot_set_iter hT ZcU ?_ (F.args_set_iter_1 _))
 unfold Builtin.«frozenset.__iter__» Builtin.Frozenset.sizeOf setDrawn setsByText
 wp_walk
 rw[hd]
 dsimp only
 rw[Zjx hf]
 rw[if_neg Bool.false_ne_true]
 refine wpAny_pure (wpAny_pure (wpAny_pure ?_))
 refine wpAny_bind (wpAny_bind (wpAny_setState_of ho hd hf ?_))
 dsimp only
 refine wpAny_bind (wpAny_bind (wpAny_askSetting (wpAny_pure (wpAny_pure ?_))))
 show wpAny _ _ (if (!ZaS w&&(!t.plain&&decide (es.size>1)))=true then _ else _) _ _ _
 split
 ·refine wpAny_bind (Zb6 es.size (List.range es.size) _ _ (by simp) fun ps d p=>?_)
  refine wpAny_bind ?_
  simp only[newTuple]
  refine wpAny_newObj_type ?_ (by show (List.map _ ps).toArray.size≤sizeLine;rw[List.size_toArray,List.length_map,p.length_eq,List.length_range];exact hz)
  refine wpAny_bind (wpAny_setEpoch_of (Heap.get?_push_of_some _ ho) hd hf (wpAny_bind (wpAny_newObj_type (wpAny_pure ⟨_,rfl,"set_iterator",_,⟨_,Heap.get?_push_size _ rfl,rfl⟩,Zas.lookup,?_⟩))))
  have q:=h1 ps d p
  rw[Heap.size_push]
  exact q
 ·rename_i hb
  refine wpAny_bind (wpAny_pure ?_)
  refine wpAny_bind (wpAny_setEpoch_of ho hd hf (wpAny_bind (wpAny_newObj_type (wpAny_pure ⟨_,rfl,"set_iterator",_,⟨_,Heap.get?_push_size _ rfl,rfl⟩,Zas.lookup,h0 ?_⟩))))
  cases h:ZaS w with
  | true=>exact .inl rfl
  | false=>
   refine .inr ?_
   cases h':t.plain with
   | true=>exact .inl rfl
   | false=>
    rw[h,h']at hb
    simp at hb
    exact .inr hb
end
section
variable {prog:Program}{w:World}{A:Around}{E:Value→Shared→Prop}{s:Shared}{I S:Addr}{o:Obj}{es:Array (Int×Value)}{ep i n:Nat}{t:SetTable}
theorem SetIt.typ {first:Value}(h:SetIt s.heap I S first i n ep):s.TypeIs (.ref I) "set_iterator":=let ⟨o,h1,h2,_⟩:=h;⟨o,h1,h2⟩
abbrev Zle (I S:Addr)(slot i ep:Nat):Sem PySem.Fin:=do
 match ←setNext S slot i ep with
 | some (x,next)=>do
  setField (.ref I) 0 (rawInt (next:Nat))
  setField (.ref I) 1 (rawInt ((i:Int)+1))
  ret x
 | none=>do
  setField (.ref I) 2 Value.none
  raiseNew (←newExc (Value.type "StopIteration") [])
abbrev ZjD (I S:Addr)(first:Value)(i ep:Nat):Sem PySem.Fin:=do
 match ←seqItems? first with
 | some places=>match places[i]? with
  | some (.int place _)=>do
   let x ←setNextDrawn S place.toNat ep
   setField (.ref I) 1 (rawInt ((i:Int)+1))
   ret x
  | some _=>unsupported "internal:set_iterator"
  | none=>do
   setField (.ref I) 0 (rawInt 0)
   setField (.ref I) 2 Value.none
   raiseNew (←newExc (Value.type "StopIteration") [])
 | _=>unsupported "internal:set_iterator"
abbrev NxQ (prog:Program)(w:World)(A:Around)(Q:Option Value→Shared→Prop)(E:Value→Shared→Prop)(fin:PySem.Fin)(s':Shared):Prop:=∃v,fin=Fin.done (Flow.ret v)∧Q (some v) s'
abbrev NxE (prog:Program)(w:World)(A:Around)(Q:Option Value→Shared→Prop)(E:Value→Shared→Prop)(e:Value)(s':Shared):Prop:=
 wpAny (model prog w) A (do let b ←isInstance e (Value.type "StopIteration");if b=true then pure none else throw e) Q E s'
theorem ZbP {slot:Nat}{Q:Option Value→Shared→Prop}(hi:SetIt s.heap I S (.int (slot:Nat) 0) i es.size ep)(ho:s.heap.get? S=some o)(hd:o.data=.set es ep t)(hf:t.fits es.size=true)
  (h:wpAny (model prog w) A.in1 (Zle I S slot i ep) (NxQ prog w A Q E) (NxE prog w A Q E) s):wpAny (model prog w) A (pyNext (.ref I)) Q E s:=by
 obtain⟨oi,hoi,hci,hdi⟩:=id hi
 unfold pyNext
 refine wpAny_bind (wpAny_attempt (wpAny_callSpecial?_slot (name:=Str.ofString "__next__") hi.typ Zas (wpAny_call_entry Zas hi.typ Za4 ?_ (Zbi _))))
 unfold Builtin.«set_iterator.__next__»
 wp_walk
 rw[hdi]
 dsimp only
 refine wpAny_pure ?_
 dsimp only
 refine wpAny_bind (wpAny_setEntries_of ho hd hf ?_)
 (try dsimp only)
 rw[if_neg (by simp)]
 refine wpAny_mono h (fun fin s' q=>?_) fun e s' q=>q
 obtain⟨v,rfl,q⟩:=q
 exact⟨v,rfl,wpAny_pure q⟩
theorem Zc3 {tp:Addr}{Q:Option Value→Shared→Prop}(hi:SetIt s.heap I S (.ref tp) i es.size ep)(ho:s.heap.get? S=some o)(hd:o.data=.set es ep t)(hf:t.fits es.size=true)
  (h:wpAny (model prog w) A.in1 (ZjD I S (.ref tp) i ep) (NxQ prog w A Q E) (NxE prog w A Q E) s):wpAny (model prog w) A (pyNext (.ref I)) Q E s:=by
 obtain⟨oi,hoi,hci,hdi⟩:=id hi
 unfold pyNext
 refine wpAny_bind (wpAny_attempt (wpAny_callSpecial?_slot (name:=Str.ofString "__next__") hi.typ Zas (wpAny_call_entry Zas hi.typ Za4 ?_ (Zbi _))))
 unfold Builtin.«set_iterator.__next__»
 wp_walk
 rw[hdi]
 dsimp only
 refine wpAny_pure ?_
 dsimp only
 refine wpAny_bind (wpAny_setEntries_of ho hd hf ?_)
 (try dsimp only)
 rw[if_neg (by simp)]
 refine wpAny_mono h (fun fin s' q=>?_) fun e s' q=>q
 obtain⟨v,rfl,q⟩:=q
 exact⟨v,rfl,wpAny_pure q⟩
theorem Zev {Q:Option Value→Shared→Prop}(hh:A.handled=none)(hQ:∀h',(∀b o,s.heap.get? b=some o→h'.get? b=some o)→Q none { s with heap:=h' }):
  wpAny (model prog w) A.in1 (do raiseNew (←newExc (Value.type "StopIteration") [])) (NxQ prog w A Q E) (NxE prog w A Q E) s:=by
 refine wpAny_bind ?_
 simp only[newExc,newTuple]
 refine wpAny_bind (wpAny_newObj_type ?_ (by size_fits))
 refine wpAny_bind (m:=firstArgMember _ _) (wpAny_of_eq (a:=Value.none) (by first | rfl | (simp only[firstArgMember];rfl)) ?_)
 refine wpAny_newObj_type ?_ (by size_fits)
 simp only[raiseNew]
 refine wpAny_bind (wpAny_handled ?_)
 rw[show A.in1.handled=none from hh]
 refine wpAny_bind (wpAny_pure (wpAny_throw ?_))
 refine wpAny_bind (wpAny_isInstance (T:="StopIteration") (b:=true) ⟨_,Heap.get?_push_size _ rfl,rfl⟩ isSubtype_stop ?_)
 exact wpAny_pure (hQ _ fun b o e=>Heap.get?_push_of_some _ (Heap.get?_push_of_some _ e))
theorem Zc5 {h:Heap} {v:Value} {k:Nat} {oi:Obj} {vs:Array Value} (hoi:h.get? I=some oi) (hci:oi.cls=.type "set_iterator") (hdi:oi.data=.fields vs):
  ∃o',(h.update I (Obj.mapFields (·.setIfInBounds k v))).get? I=some o'∧o'.cls=.type "set_iterator"∧o'.data=.fields (vs.setIfInBounds k v):=
 ⟨_,Heap.get?_update_self _ hoi (Obj.isFreed_of_fields (Obj.data_mapFields hdi _)),(Obj.cls_mapFields ..).trans hci,Obj.data_mapFields hdi _⟩
theorem Zck {slot:Nat}{Q:Option (Value×Nat)→Shared→Prop}(ho:s.heap.get? S=some o)(hd:o.data=.set es ep t)(hf:t.fits es.size=true)(hb:ZaS w=true)
  (h:Q (((pickOrder (w.params.setOrder S ep) es)[i]?).map fun e=>(e.2,slot)) s):wpAny (model prog w) A (setNext S slot i ep) Q E s:=by
 unfold setNext
 refine wpAny_bind (wpAny_setState_of ho hd hf ?_)
 dsimp only
 unfold setsByText
 refine wpAny_bind (wpAny_bind (wpAny_askSetting (wpAny_pure ?_)))
 show wpAny _ _ (if ZaS w=true then _ else _) _ _ _
 rw[hb,if_pos rfl,if_neg (by simp)]
 unfold setWalk
 refine wpAny_bind (wpAny_bind (wpAny_setState_of ho hd hf ?_))
 dsimp only
 unfold setsByText
 refine wpAny_bind (wpAny_bind (wpAny_askSetting (wpAny_pure ?_)))
 show wpAny _ _ (if ZaS w=true then _ else _) _ _ _
 rw[hb,if_pos rfl]
 exact wpAny_bind (wpAny_askSetting (wpAny_pure (wpAny_pure h)))
theorem Zcl {slot:Nat}{Q:Option (Value×Nat)→Shared→Prop}(ho:s.heap.get? S=some o)(hd:o.data=.set es ep t)(hf:t.fits es.size=true)(hb:ZaS w=false)(hl:t.led=true)(h1:es.size≤1)
  (h:Q (match es[SetTable.below t.place slot]?,t.place[SetTable.below t.place slot]? with | some (_,x),some j=>some (x,j+1) | _,_=>none) s):wpAny (model prog w) A (setNext S slot i ep) Q E s:=by
 unfold setNext
 refine wpAny_bind (wpAny_setState_of ho hd hf ?_)
 dsimp only
 unfold setsByText
 refine wpAny_bind (wpAny_bind (wpAny_askSetting (wpAny_pure ?_)))
 show wpAny _ _ (if ZaS w=true then _ else (if (!t.plain&&decide (es.size>1))=true then _ else _)) _ _ _
 have hn:¬es.size>1:=by omega
 rw[hb,if_neg Bool.false_ne_true,decide_eq_false hn,Bool.and_false,if_neg Bool.false_ne_true]
 show wpAny _ _ ((if (!t.led&&!es.isEmpty)=true then (do let _ ←(unsupported "set:maker-not-led":Sem Unit);pure ()) else pure ()) >>= fun _=>_) _ _ _
 rw[hl,Bool.not_true,Bool.false_and,if_neg Bool.false_ne_true]
 exact wpAny_bind (wpAny_pure (wpAny_pure h))
end
theorem ZdU {α:Type}{next:Nat→Nat}:∀(fuel k:Nat) (left:List α) (out:Array α),left.length=fuel→(pickOrder.go next fuel k left out).toList.Perm (out.toList++left)
 | 0,k,left,out,h=>by
  have e:left=[]:=List.eq_nil_of_length_eq_zero h
  subst e
  unfold pickOrder.go
  simp
 | fuel+1,k,left,out,h=>by
  have hlt:next k % left.length<left.length:=Nat.mod_lt _ (by omega)
  unfold pickOrder.go
  rw[List.getElem?_eq_getElem hlt]
  dsimp only
  refine(ZdU fuel (k+1) _ _ (by rw[List.length_eraseIdx_of_lt hlt,h];rfl)).trans ?_
  rw[Array.toList_push,List.append_assoc]
  exact(Zb3 left _ hlt).append_left _
theorem Za7 {α:Type}{next:Nat→Nat}{xs:Array α}:(pickOrder next xs).toList.Perm xs.toList:=by
 unfold pickOrder
 have:=ZdU (next:=next) xs.size 0 xs.toList #[] (by simp)
 simpa using this
theorem Zbc:Slot "set_iterator" "__iter__" "set_iterator.__iter__":=
 .of (owner:="set_iterator") (n:="__iter__") (by rw[typeLookup_type,builtinLookup_eq_fast];kernel_rfl) (by decide +kernel) (by decide +kernel) (by decide +kernel) (by first | exact .inl (by decide +kernel) | exact .inr (by decide +kernel)) (by rw[isSubtype_type];kernel_rfl)
theorem ZbS:entryFor table "set_iterator.__iter__"=some Builtin.«dict_keyiterator.__iter__»:=entryFor_alias (id':="dict_keyiterator.__iter__") (by kernel_rfl) rfl (by decide +kernel) (by kernel_rfl)
theorem Zb4 (a:Value):argsOk "set_iterator.__iter__" ⟨[a],[]⟩:=by unfold argsOk;kernel_rfl
section
variable {prog:Program}{w:World}{A:Around}{E:Value→Shared→Prop}{s:Shared}{I S:Addr}{o:Obj}{es:Array (Int×Value)}{ep i n:Nat}{t:SetTable}
theorem ZcB {first:Value}{Q:Value→Shared→Prop}(hi:SetIt s.heap I S first i n ep)(h:Q (.ref I) s):wpAny (model prog w) A (pyIter (.ref I)) Q E s:=by
 refine wpAny_pyIter_slot hi.typ Zbc (wpAny_call_entry Zbc hi.typ ZbS ?_ (Zb4 _))
 show wpAny _ _ (ret (.ref I)) _ _ s
 exact wpAny_pure ⟨_,rfl,"set_iterator",_,hi.typ,Zas.lookup,h⟩
theorem ZbB {h h':Heap}{o:Obj}(sb:Heap.SameBut I h h')(hne:S≠I)(ho:h.get? S=some o):h'.get? S=some o:=(sb.2 S hne).trans ho
theorem Zf9 (hh:A.handled=none)(hne:S≠I)(hd:o.data=.set es ep t)(hf:t.fits es.size=true)(hb:ZaS w=true):
  Walks prog w A I [I,S] [I] es.size (fun i v=>(((pickOrder (w.params.setOrder S ep) es).toList).map (·.2))[i]?=some v) (fun i h=>SetIt h I S (.int ((0:Nat):Int) 0) i es.size ep∧h.get? S=some o) where
 sub:=fun b hb=>by simp at hb;simp[hb]
 frame:=fun i h h' ⟨⟨oi,h1,r⟩,h2⟩ hk=>⟨⟨oi,hk I (by simp) _ h1,r⟩,hk S (by simp) _ h2⟩
 item:=fun i s Q E hi ⟨st,ho⟩ hQ=>by
  have hl:(pickOrder (w.params.setOrder S ep) es).size=es.size:=by rw[←Array.length_toList,Za7.length_eq,Array.length_toList]
  have he:(pickOrder (w.params.setOrder S ep) es)[i]?=some (pickOrder (w.params.setOrder S ep) es)[i]:=by simp[hl,hi]
  refine ZbP st ho hd hf (wpAny_bind (Zck ho hd hf hb ?_))
  rw[he]
  dsimp only[Option.map_some]
  obtain⟨oi,g1,g2,g3⟩:=id st
  refine wpAny_bind (wpAny_setField g1 g3 (by simp) ?_)
  obtain⟨o1,k1,k2,k3⟩:=Zc5 (v:=rawInt ((0:Nat):Int)) (k:=0) g1 g2 g3
  refine wpAny_bind (wpAny_setField k1 k3 (by simp) ?_)
  obtain⟨o2,m1,m2,m3⟩:=Zc5 (v:=rawInt ((i:Int)+1)) (k:=1) k1 k2 k3
  have sb:=(Heap.SameBut.update s.heap I (Obj.mapFields (·.setIfInBounds 0 (rawInt ((0:Nat):Int))))).trans (Heap.SameBut.update _ I (Obj.mapFields (·.setIfInBounds 1 (rawInt ((i:Int)+1)))))
  refine wpAny_pure ⟨_,rfl,hQ _ _ s.toks ?_ ⟨⟨o2,m1,m2,?_⟩,ZbB sb hne ho⟩ fun b o hb e=>(sb.2 b (by simpa using hb)).trans e⟩
  ·rw[List.getElem?_map,Array.getElem?_toList,he];rfl
  ·rw[m3];simp[rawInt]
 done:=fun s Q E ⟨st,ho⟩ hQ=>by
  have hl:(pickOrder (w.params.setOrder S ep) es).size=es.size:=by rw[←Array.length_toList,Za7.length_eq,Array.length_toList]
  have he:(pickOrder (w.params.setOrder S ep) es)[es.size]?=none:=by simp[hl]
  refine ZbP st ho hd hf (wpAny_bind (Zck ho hd hf hb ?_))
  rw[he]
  dsimp only[Option.map_none]
  obtain⟨oi,g1,g2,g3⟩:=id st
  refine wpAny_bind (wpAny_setField g1 g3 (by simp) ?_)
  have sb:=Heap.SameBut.update s.heap I (Obj.mapFields (·.setIfInBounds 2 Value.none))
  exact Zev (A:=A) hh fun h' k=>hQ h' s.toks fun b o hb e=>k b o ((sb.2 b (by simpa using hb)).trans e)
 self:=fun i s Q E ⟨st,_⟩ hQ=>ZcB st hQ
def ZbY (t:SetTable)(i:Nat):Nat:=if i=0 then 0 else t.place.getD 0 0+1
theorem Zf5 {xs:Array Nat}:SetTable.below xs 0=0:=by
 unfold SetTable.below
 have all:∀fuel hi,SetTable.below.go xs 0 fuel 0 hi=0:=by
  intro fuel
  induction fuel with
  | zero=>intro hi;unfold SetTable.below.go;rfl
  | succ f ih=>
   intro hi
   unfold SetTable.below.go
   split
   ·rw[if_neg (Nat.not_lt_zero _)];exact ih _
   ·rfl
 exact all _ _
theorem Zho {j:Nat}:SetTable.below #[j] (j+1)=1:=by
 unfold SetTable.below
 show SetTable.below.go #[j] (j+1) 1 0 1=1
 unfold SetTable.below.go
 simp[SetTable.below.go]
theorem Zkr {xs:Array Nat}(h:xs.size=1):∃j,xs=#[j]:=by
 obtain⟨l⟩:=xs
 match l,h with
 | [j],_=>exact⟨j,rfl⟩
theorem Zga (hh:A.handled=none)(hne:S≠I)(hd:o.data=.set es ep t)(hf:t.fits es.size=true)(hb:ZaS w=false)(hl:t.led=true)(h1:es.size≤1):
  Walks prog w A I [I,S] [I] es.size (fun i v=>(es.toList.map (·.2))[i]?=some v) (fun i h=>SetIt h I S (.int ((ZbY t i:Nat):Int) 0) i es.size ep∧h.get? S=some o) where
 sub:=fun b hb=>by simp at hb;simp[hb]
 frame:=fun i h h' ⟨⟨oi,h1,r⟩,h2⟩ hk=>⟨⟨oi,hk I (by simp) _ h1,r⟩,hk S (by simp) _ h2⟩
 item:=fun i s Q E hi ⟨st,ho⟩ hQ=>by
  have i0:i=0:=by omega
  subst i0
  have ps:t.place.size=es.size:=by
   have:=hf
   simp only[SetTable.fits,Bool.and_eq_true,beq_iff_eq]at this
   exact this.1
  have he:es[0]?=some es[0]:=by simp[hi]
  have hp:t.place[0]?=some (t.place.getD 0 0):=by
   have:0<t.place.size:=by omega
   simp[this]
  refine ZbP st ho hd hf (wpAny_bind (Zcl ho hd hf hb hl h1 ?_))
  rw[show ZbY t 0=0 from rfl,Zf5,he,hp]
  dsimp only
  obtain⟨oi,g1,g2,g3⟩:=id st
  refine wpAny_bind (wpAny_setField g1 g3 (by simp) ?_)
  obtain⟨o1,k1,k2,k3⟩:=Zc5 (v:=rawInt ((t.place.getD 0 0+1:Nat):Int)) (k:=0) g1 g2 g3
  refine wpAny_bind (wpAny_setField k1 k3 (by simp) ?_)
  obtain⟨o2,m1,m2,m3⟩:=Zc5 (v:=rawInt (((0:Nat):Int)+1)) (k:=1) k1 k2 k3
  have sb:=(Heap.SameBut.update s.heap I (Obj.mapFields (·.setIfInBounds 0 (rawInt ((t.place.getD 0 0+1:Nat):Int))))).trans (Heap.SameBut.update _ I (Obj.mapFields (·.setIfInBounds 1 (rawInt (((0:Nat):Int)+1)))))
  refine wpAny_pure ⟨_,rfl,hQ _ _ s.toks ?_ ⟨⟨o2,m1,m2,?_⟩,ZbB sb hne ho⟩ fun b o hb e=>(sb.2 b (by simpa using hb)).trans e⟩
  ·rw[List.getElem?_map,Array.getElem?_toList,he];rfl
  ·rw[m3];simp[rawInt,ZbY]
 done:=fun s Q E ⟨st,ho⟩ hQ=>by
  have ps:t.place.size=es.size:=by
   have:=hf
   simp only[SetTable.fits,Bool.and_eq_true,beq_iff_eq]at this
   exact this.1
  have hn:es[SetTable.below t.place (ZbY t es.size)]?=none:=by
   have hz:es.size=0∨es.size=1:=by omega
   rcases hz with z | z
   ·simp[z]
   ·have e1:∃j,t.place=#[j]:=by
     have:t.place.size=1:=by omega
     exact Zkr this
    obtain⟨j,ej⟩:=e1
    have:ZbY t es.size=j+1:=by unfold ZbY;rw[if_neg (by omega),ej];rfl
    rw[this,ej,Zho]
    simp[z]
  refine ZbP st ho hd hf (wpAny_bind (Zcl ho hd hf hb hl h1 ?_))
  rw[hn]
  dsimp only
  obtain⟨oi,g1,g2,g3⟩:=id st
  refine wpAny_bind (wpAny_setField g1 g3 (by simp) ?_)
  have sb:=Heap.SameBut.update s.heap I (Obj.mapFields (·.setIfInBounds 2 Value.none))
  exact Zev (A:=A) hh fun h' k=>hQ h' s.toks fun b o hb e=>k b o ((sb.2 b (by simpa using hb)).trans e)
 self:=fun i s Q E ⟨st,_⟩ hQ=>ZcB st hQ
theorem ZfQ {p:Nat}{e:Int×Value}{Q:Value→Shared→Prop}(ho:s.heap.get? S=some o)(hd:o.data=.set es ep t)(hf:t.fits es.size=true)(he:es[p]?=some e)(h:Q e.2 s):wpAny (model prog w) A (setNextDrawn S p ep) Q E s:=by
 unfold setNextDrawn
 refine wpAny_bind (wpAny_setState_of ho hd hf ?_)
 dsimp only
 rw[if_neg (by simp),he]
 exact wpAny_pure h
theorem Zep {tp:Addr}{ps:List Nat}(hh:A.handled=none)(hne:S≠I)(hnt:tp≠I)(hd:o.data=.set es ep t)(hf:t.fits es.size=true)(hp:ps.Perm (List.range es.size)):
  Walks prog w A I [I,S,tp] [I] es.size (fun i v=>(ps.map fun p=>(es.getD p (0,.none)).2)[i]?=some v) (fun i h=>SetIt h I S (.ref tp) i es.size ep∧h.get? S=some o∧h.get? tp=some { cls:=.type "tuple",data:=.seq (ps.map (fun i=>Value.int ((i:Nat):Int) 0)).toArray }) where
 sub:=fun b hb=>by simp at hb;simp[hb]
 frame:=fun i h h' ⟨⟨oi,h1,r⟩,h2,h3⟩ hk=>⟨⟨oi,hk I (by simp) _ h1,r⟩,hk S (by simp) _ h2,hk tp (by simp) _ h3⟩
 item:=fun i s Q E hi ⟨st,ho,ht⟩ hQ=>by
  have hl:ps.length=es.size:=by rw[hp.length_eq,List.length_range]
  have hi':i<ps.length:=by omega
  have hpi:ps[i]?=some ps[i]:=List.getElem?_eq_getElem hi'
  have hlt:ps[i]<es.size:=List.mem_range.mp (hp.mem_iff.mp (List.getElem_mem hi'))
  have he:es[ps[i]]?=some es[ps[i]]:=by simp[hlt]
  refine Zc3 st ho hd hf (wpAny_bind (wpAny_seqItems ht rfl ?_))
  dsimp only
  have hx:((ps.map (fun i=>Value.int ((i:Nat):Int) 0)).toArray)[i]?=some (Value.int ((ps[i]:Nat):Int) 0):=by simp[hpi]
  rw[hx]
  dsimp only
  refine wpAny_bind (ZfQ ho hd hf he ?_)
  obtain⟨oi,g1,g2,g3⟩:=id st
  refine wpAny_bind (wpAny_setField g1 g3 (by simp) ?_)
  obtain⟨o2,m1,m2,m3⟩:=Zc5 (v:=rawInt ((i:Int)+1)) (k:=1) g1 g2 g3
  have sb:=Heap.SameBut.update s.heap I (Obj.mapFields (·.setIfInBounds 1 (rawInt ((i:Int)+1))))
  refine wpAny_pure ⟨_,rfl,hQ _ _ s.toks ?_ ⟨⟨o2,m1,m2,?_⟩,ZbB sb hne ho,ZbB sb hnt ht⟩ fun b o hb e=>(sb.2 b (by simpa using hb)).trans e⟩
  ·rw[List.getElem?_map,hpi];simp[hlt]
  ·rw[m3];simp[rawInt]
 done:=fun s Q E ⟨st,ho,ht⟩ hQ=>by
  have hl:ps.length=es.size:=by rw[hp.length_eq,List.length_range]
  refine Zc3 st ho hd hf (wpAny_bind (wpAny_seqItems ht rfl ?_))
  dsimp only
  have hx:((ps.map (fun i=>Value.int ((i:Nat):Int) 0)).toArray)[es.size]?=none:=by simp[hl]
  rw[hx]
  dsimp only
  obtain⟨oi,g1,g2,g3⟩:=id st
  refine wpAny_bind (wpAny_setField g1 g3 (by simp) ?_)
  obtain⟨o1,k1,k2,k3⟩:=Zc5 (v:=rawInt 0) (k:=0) g1 g2 g3
  refine wpAny_bind (wpAny_setField k1 k3 (by simp) ?_)
  have sb:=(Heap.SameBut.update s.heap I (Obj.mapFields (·.setIfInBounds 0 (rawInt 0)))).trans (Heap.SameBut.update _ I (Obj.mapFields (·.setIfInBounds 2 Value.none)))
  exact Zev (A:=A) hh fun h' k=>hQ h' s.toks fun b o hb e=>k b o ((sb.2 b (by simpa using hb)).trans e)
 self:=fun i s Q E ⟨st,_⟩ hQ=>ZcB st hQ
end
theorem Zd8:typeLookup (.type "set") "__len__"=pure (some (.builtin "set.__len__")):=by rw[typeLookup_type,builtinLookup_eq_fast];kernel_rfl
section
variable {prog:Program}{w:World}{A:Around}{E:Value→Shared→Prop}{s:Shared}
theorem ZfA {es:Array (Int×Value)}{ps:List Nat}(hp:ps.Perm (List.range es.size)):(ps.map fun p=>(es.getD p (0,.none)).2).Perm (es.toList.map (·.2)):=by
 have q:=hp.map (fun p=>(es.getD p (0,.none)).2)
 refine q.trans (.of_eq ?_)
 apply List.ext_getElem
 ·simp
 ·intro n h1 h2
  have hn:n<es.size:=by simpa using h2
  simp[hn]
theorem ZfW {S:Addr}{ls:List (List Nat)}{Q:Value→Shared→Prop}(hS:TxSet prog w s.heap S ls (!ZaS w))
  (h:∀(h2:Heap) (d:Drawn) (I:Addr) (fp:List Addr) (vs:List Value) (ms:List (List Nat)) (St:Nat→Heap→Prop),(∀A':Around,A'.handled=none→Walks prog w A' I fp [I] ls.length (fun i v=>vs[i]?=some v) St)→St 0 h2 →
   (∀b∈fp,b=S∨s.heap.objs.size≤b)→s.heap.objs.size≤I→(∀b o,s.heap.get? b=some o→h2.get? b=some o)→ms.Perm ls→Vals (ms.map tx) vs→Q (.ref I) { s with heap:=h2,drawn:=d }):
  wpAny (model prog w) A (pyIter (.ref S)) Q E s:=by
 obtain⟨o,es,ep,t,ms,ho,hex,hd,hel,hf,hled,hpl,hp,hv,hb⟩:=hS
 have hlen:es.size=ls.length:=by
  have q:=hv.length
  rw[List.length_map,List.length_map]at q
  rw[←Array.length_toList,←q,hp.length_eq]
 have hlt:=Heap.lt_size ho
 refine Zh7 ho hex hd hf (fits_of_scanBound hb) (fun hc=>?_) fun ps d pp=>?_
 ·have nI:S≠s.heap.objs.size:=Nat.ne_of_lt hlt
  have st:(s.heap.push ({ cls:=.type "set_iterator",data:=.fields #[.int 0 0,.int 0 0,.ref S,.int es.size 0,.int ep 0] }:Obj)).get? s.heap.objs.size=some { cls:=.type "set_iterator",data:=.fields #[.int 0 0,.int 0 0,.ref S,.int es.size 0,.int ep 0] }:=Heap.get?_push_size _ rfl
  have fp:∀b∈[s.heap.objs.size,S],b=S∨s.heap.objs.size≤b:=fun b hb=>by
   rcases List.mem_cons.mp hb with z | z
   ·exact .inr (Nat.le_of_eq z.symm)
   ·exact .inl (by simpa using z)
  cases hby:ZaS w with
  | true=>
   obtain⟨ms',p',r'⟩:=Zce ((Za7 (next:=w.params.setOrder S ep) (xs:=es)).map (·.2)) hv
   have W:∀A':Around,A'.handled=none→_:=fun A' hA=>Zf9 (prog:=prog) (w:=w) (A:=A') (I:=s.heap.objs.size) (S:=S) (o:=o) hA nI hd hf hby
   rw[hlen]at W
   exact h _ s.drawn _ _ _ ms' _ W ⟨⟨_,st,rfl,by rw[hlen];rfl⟩,Heap.get?_push_of_some _ ho⟩ fp (Nat.le_refl _) (fun b o e=>Heap.get?_push_of_some _ e) (p'.trans hp) r'
  | false=>
   have h1:es.size≤1:=by
    rcases hc with z | z | z
    ·rw[hby]at z;cases z
    ·rw[hpl z];exact Nat.zero_le _
    ·exact z
   have hl:t.led=true:=by rw[hled,hby];rfl
   have W:∀A':Around,A'.handled=none→_:=fun A' hA=>Zga (prog:=prog) (w:=w) (A:=A') (I:=s.heap.objs.size) (S:=S) (o:=o) hA nI hd hf hby hl h1
   rw[hlen]at W
   exact h _ s.drawn _ _ _ ms _ W ⟨⟨_,st,rfl,by rw[hlen];rfl⟩,Heap.get?_push_of_some _ ho⟩ fp (Nat.le_refl _) (fun b o e=>Heap.get?_push_of_some _ e) hp hv
 ·have nI:S≠s.heap.objs.size+1:=Nat.ne_of_lt (Nat.lt_succ_of_lt hlt)
  have nT:s.heap.objs.size≠s.heap.objs.size+1:=Nat.ne_of_lt (Nat.lt_succ_self _)
  obtain⟨ms',p',r'⟩:=Zce (ZfA pp) hv
  have W:∀A':Around,A'.handled=none→_:=fun A' hA=>Zep (prog:=prog) (w:=w) (A:=A') (I:=s.heap.objs.size+1) (S:=S) (o:=o) (tp:=s.heap.objs.size) hA nI nT hd hf pp
  rw[hlen]at W
  refine h _ d _ _ _ ms' _ W ⟨⟨{ cls:=.type "set_iterator",data:=.fields #[.ref s.heap.objs.size,.int 0 0,.ref S,.int es.size 0,.int ep 0] },?_,rfl,by rw[hlen];rfl⟩,Heap.get?_push_of_some _ (Heap.get?_push_of_some _ ho),Heap.get?_push_of_some _ (Heap.get?_push_size _ rfl)⟩ ?_ (Nat.le_succ _) (fun b o e=>Heap.get?_push_of_some _ (Heap.get?_push_of_some _ e)) (p'.trans hp) r'
  ·rw[←Heap.size_push];exact Heap.get?_push_size _ rfl
  ·intro b hb
   rcases List.mem_cons.mp hb with z | z
   ·exact .inr (by rw[z];exact Nat.le_succ _)
   ·rcases List.mem_cons.mp z with z | z
    ·exact .inl z
    ·have z:b=s.heap.objs.size:=by simpa using z
     exact .inr (Nat.le_of_eq z.symm)
theorem ZeO {S:Addr}{ls:List (List Nat)}{Q:List Value→Shared→Prop}(hh:A.handled=none)(hS:TxSet prog w s.heap S ls (!ZaS w))(hn:ls.length≤sizeLine)
  (hQ:∀(s':Shared) (vs:List Value) (ms:List (List Nat)),(∀b o,s.heap.get? b=some o→s'.heap.get? b=some o)→s'.gens=s.gens→s'.os=s.os→ms.Perm ls→Vals (ms.map tx) vs→Q vs s'):wpAny (model prog w) A (collect (.ref S)) Q E s:=by
 unfold collect
 refine wpAny_bind (wpAny_runValue (codeAny_builtin F.entry_proto_collect ?_))
 rw[Around.under_plainId F.plain_proto_collect _]
 show wpAny _ A.in1 (newList [] >>= fun l=>again (.builtin "list.__iadd__" ⟨[l,.ref S],[]⟩)) _ _ s
 refine wpAny_bind (wpAny_newObj_type (wpAny_pure ⟨plainId_quiet F.plain_list_iadd _,codeAny_builtin F.entry_list_iadd ?_⟩))
 rw[Around.under_plainId F.plain_list_iadd _]
 generalize hH:s.heap.push { cls:=.type "list",data:=.seq ([]:List Value).toArray }=H
 have hHs:H.objs.size=s.heap.objs.size+1:=by rw[←hH,Heap.size_push]
 have hL:H.get? s.heap.objs.size=some { cls:=.type "list",data:=.seq ([]:List Value).toArray }:=hH▸Heap.get?_push_size _ rfl
 have k1:∀b o,s.heap.get? b=some o→H.get? b=some o:=fun b o e=>hH▸Heap.get?_push_of_some _ e
 have hS1:TxSet prog w H S ls (!ZaS w):=hS.keep fun o e=>k1 S o e
 have hT:Shared.TypeIs { s with heap:=H } (.ref S) "set":=hS1.typ (s:={ s with heap:=H })
 have nS:S≠s.heap.objs.size:=by
  obtain⟨o,_,_,_,_,ho,_⟩:=hS
  exact Nat.ne_of_lt (Heap.lt_size ho)
 show wpAny _ A.in1 (Builtin.List.listExtendWith (.ref s.heap.objs.size) (.ref S) (.ref s.heap.objs.size)) _ _ { s with heap:=H }
 unfold Builtin.List.listExtendWith
 refine wpAny_bind (wpAny_typeOf hT ?_)
 have h1:Builtin.List.listSameRef (.ref s.heap.objs.size) (.ref S)=false:=by simp[Builtin.List.listSameRef,Ne.symm nS]
 have h2:(Value.type "set" == Value.type "list")=false:=by decide
 have h3:(Value.type "set" == Value.type "tuple")=false:=by decide
 simp only[h1,h2,h3,Bool.or_false,Bool.false_eq_true,if_false]
 refine wpAny_bind (ZfW (s:={ s with heap:=H }) hS1 fun h2' d I fp vs ms St W st hfp hI k2 hp hv=>?_)
 have hT2:Shared.TypeIs { s with heap:=h2',drawn:=d } (.ref S) "set":=(hS1.keep fun o e=>k2 S o e).typ (s:={ s with heap:=h2',drawn:=d })
 refine wpAny_bind (wpAny_holding ?_)
 unfold Builtin.List.listLengthHint
 refine wpAny_bind (wpAny_specialOf hT2 Zd8 ?_)
 wp_delta
 refine wpAny_bind (wpAny_isInstance (T:="set") (v:=.ref S) (b:=true) hT2 (by rw[isSubtype_type];kernel_rfl) ?_)
 show wpAny _ A.in1 (typeOf (Value.ref S) >>= fun r=>_) _ _ _
 refine wpAny_bind (wpAny_typeOf hT2 ?_)
 refine wpAny_pure ?_
 rw[if_pos (by decide)]
 refine wpAny_bind (wpAny_rule ?_)
 have hL2:h2'.get? s.heap.objs.size=some { cls:=.type "list",data:=.seq ([]:List Value).toArray }:=k2 _ _ hL
 refine wpAny_bind ?_
 show wpAny _ A.in1 (updateSeq s.heap.objs.size (·.push .none) >>= fun _=>updateSeq s.heap.objs.size (·.pop)) _ _ _
 refine wpAny_bind (wpAny_updateSeq hL2 rfl ?_)
 have hL3:=Heap.get?_update_self (Obj.mapSeq (·.push Value.none)) hL2 rfl
 refine wpAny_updateSeq hL3 rfl ?_
 have hL4:=Heap.get?_update_self (Obj.mapSeq (·.pop)) hL3 rfl
 have oth:∀b o,b≠s.heap.objs.size→h2'.get? b=some o→((h2'.update s.heap.objs.size (Obj.mapSeq (·.push Value.none))).update s.heap.objs.size (Obj.mapSeq (·.pop))).get? b=some o:=
  fun b o hb e=>(Heap.get?_update_other _ _ (Ne.symm hb)).trans ((Heap.get?_update_other _ _ (Ne.symm hb)).trans e)
 have hle:s.heap.objs.size+1≤I:=by rw[←hHs];exact hI
 have hSf:s.heap.objs.size∉fp:=fun z=>by
  rcases hfp _ z with q | q
  ·exact nS q.symm
  ·have q':H.objs.size≤s.heap.objs.size:=q
   rw[hHs]at q';exact absurd q' (Nat.not_succ_le_self _)
 refine wpAny_pure ⟨plainId_quiet F.plain_extend_loop _,codeAny_extend_loopS (W A.in1 hh).toS hn _ hSf _ ls.length 0 _ _ _ rfl (Nat.zero_le _) ((W A.in1 hh).frame 0 h2' _ st fun b hb o e=>oth b o (fun z=>hSf (z▸hb)) e) hL4 (ItemsOf.nil _) fun s' acc' c' hm hS' hacc=>?_⟩
 show wpAny _ A (load s.heap.objs.size >>= fun r=>_) _ _ s'
 refine wpAny_bind (wpAny_load hS' ?_)
 have hvs:acc'.toList=vs:=by
  have hl:vs.length=ls.length:=by rw[←hv.length,List.length_map,hp.length_eq]
  apply List.ext_getElem?
  intro j
  rw[Array.getElem?_toList]
  by_cases hj:j<ls.length
  ·have hj':j<acc'.size:=by rw[hacc.1];exact hj
   have e:acc'[j]?=some acc'[j]:=by simp[hj']
   rw[e,hacc.2 j _ e]
  ·rw[Array.getElem?_eq_none (by rw[hacc.1];omega),List.getElem?_eq_none (by omega)]
 have done:=hQ s' vs ms (fun b o e=>by
  have hlt:=Heap.lt_size e
  refine hm.heap b o (fun z=>?_) (oth b o (Nat.ne_of_lt hlt) (k2 b o (k1 b o e)))
  rcases List.mem_cons.mp z with q | q
  ·rw[q]at hlt;exact Nat.lt_irrefl _ hlt
  ·have q:b=I:=by simpa using q
   rw[q]at hlt
   exact absurd hlt (Nat.not_lt.mpr (Nat.le_of_succ_le hle))) hm.gens hm.os hp hv
 rw[←hvs]at done
 exact wpAny_pure done
end
def leT (a b:List Nat):Bool:=!decide (b<a)
def Zbk (ls:List (List Nat)):List (List Nat):=ls.mergeSort leT
theorem Za8 {a b:List Nat}:leT a b=true↔a≤b:=by
 unfold leT
 rw[Bool.not_eq_true',decide_eq_false_iff_not]
 exact List.not_lt
theorem ZaI (ls:List (List Nat)):(Zbk ls).Perm ls:=List.mergeSort_perm _ _
theorem Zbs (ls:List (List Nat)):(Zbk ls).Pairwise (fun a b=>leT a b=true):=
 List.pairwise_mergeSort (le:=leT) (fun a b c h1 h2=>Za8.mpr (List.le_trans (Za8.mp h1) (Za8.mp h2))) (fun a b=>Bool.or_eq_true_iff.mpr ((List.le_total a b).imp Za8.mpr Za8.mpr)) ls
theorem Zbz {ms ls:List (List Nat)}(p:ms.Perm ls)(h:ms.Pairwise (fun a b=>leT a b=true)):ms=Zbk ls:=
 List.Perm.eq_of_pairwise (fun a b _ _ h1 h2=>List.le_antisymm (Za8.mp h1) (Za8.mp h2)) h (Zbs ls) (p.trans (ZaI ls).symm)
theorem Zci {ms ls:List (List Nat)}(p:ms.Perm ls):Zbk ms=Zbk ls:=Zbz ((ZaI ms).trans p) (Zbs ms)
theorem Zeu:∀ {us:List Value} {ss:List Str},StrsAre us ss→Vals ((ss.map fun x=>x.cps.toList).map tx) us
 | _,_,.nil=>.nil
 | _,_,.cons x t h=>.cons ⟨t,rfl⟩ (Zeu h)
theorem ZbK:∀ {ss:List Str},sortedS ss=true→(ss.map fun x=>x.cps.toList).Pairwise (fun a b=>leT a b=true):=by
 have ris:∀(p:Str) (l:List Str),risingS p l=true→((p::l).map fun x=>x.cps.toList).Pairwise (fun a b=>leT a b=true):=by
  intro p l
  induction l generalizing p with
  | nil=>intro _;simp
  | cons x r ih=>
   intro h
   have h':(!ltCps x.cps.toList p.cps.toList&&risingS x r)=true:=h
   rw[Bool.and_eq_true,ltCps_eq]at h'
   have q:=ih x h'.2
   rw[List.map_cons,List.pairwise_cons]
   refine⟨fun b hb=>?_,q⟩
   have hx:leT p.cps.toList x.cps.toList=true:=h'.1
   rw[List.map_cons]at hb q
   rcases List.mem_cons.mp hb with z | z
   ·rw[z];exact hx
   ·exact Za8.mpr (List.le_trans (Za8.mp hx) (Za8.mp ((List.pairwise_cons.mp q).1 b z)))
 intro ss h
 cases ss with
 | nil=>simp
 | cons x r=>exact ris x r h
theorem ZdJ {us:List Value}{ls:List (List Nat)}(r:Vals (ls.map tx) us):StrsAre us (ls.map fun l=>(⟨l.toArray⟩:Str)):=ZcY r
theorem Zfw (ls:List (List Nat)):(ls.map fun l=>(⟨l.toArray⟩:Str)).map (fun x=>x.cps.toList)=ls:=by
 rw[List.map_map]
 conv=>rhs;rw[←List.map_id ls]
 apply List.map_congr_left
 intro l _
 simp
section
variable {prog:Program}{w:World}{A:Around}{E:Value→Shared→Prop}{s:Shared}
theorem Zgm {vs:List Value}{ms:List (List Nat)}{Q:Value→Shared→Prop}(hv:Vals (ms.map tx) vs)(h64:ms.length<64)
  (h:∀(h':Heap) (us:List Value) (e:Nat),(∀b o,s.heap.get? b=some o→h'.get? b=some o)→h'.get? s.heap.objs.size=some { cls:=.type "list",data:=.seq us.toArray e }→Vals ((Zbk ms).map tx) us→Q (.ref s.heap.objs.size) { s with heap:=h' }):
  wpAny (model prog w) A (do let l ←newList vs;let _ ←holding [l] (call (.builtin "list.sort") [l] []);ret l) (fun fin s'=>∃v,fin=Fin.done (Flow.ret v)∧Q v s') E s:=by
 have hS:=ZdJ hv
 have hlen:vs.length<64:=by rw[←hv.length,List.length_map];exact h64
 refine wpAny_bind (wpAny_newList ?_ ?_)
 ·have hoL:(s.heap.push (seqObj "list" vs.toArray 0)).get? s.heap.objs.size=some (seqObj "list" vs.toArray 0):=Heap.get?_push_size _ rfl
  refine wpAny_bind (wpAny_holding (wpAny_call_entry slot_list_sort ⟨_,hoL,rfl⟩ entry_list_sort (list_sort_treeK strKind_oneLt hoL hS.keysOf (fun v₁ v₂ rest e=>keyKind_strs (by rw[←e];exact hS)) hlen fun st' a1 a2=>⟨_,rfl,?_⟩) (args_list_sort _)))
  obtain⟨ss',b1,b2,b3⟩:=sorted_out_str hS a1 a2
  obtain⟨e,he⟩:=sortedHeap_at (out:=(arrOf st').map (·.2)) hoL
  refine wpAny_pure ⟨_,rfl,h _ ((arrOf st').map (·.2)).toList e (fun b o q=>?_) ?_ ?_⟩
  ·have hlt:=Heap.lt_size q
   have hlt':b<(s.heap.push (seqObj "list" vs.toArray 0)).objs.size:=by rw[Heap.size_push];exact Nat.lt_succ_of_lt hlt
   exact(sortedHeap_old (Nat.ne_of_lt hlt) hlt').trans (Heap.get?_push_of_some _ q)
  ·have q:((arrOf st').map (·.2)).toList.toArray=(arrOf st').map (·.2):=Array.toArray_toList
   rw[q];exact he
  ·have p1:(ss'.map fun x=>x.cps.toList).Perm ms:=by
    have:=b2.map (fun x:Str=>x.cps.toList)
    rwa [Zfw]at this
   have e1:=Zbz p1 (ZbK b3)
   rw[←e1]
   exact Zeu b1
 ·exact Nat.le_trans (Nat.le_of_lt hlen) (by rw[sizeLine_eq];decide)
theorem ZfF {S:Addr}{ls:List (List Nat)}{Q:Value→Shared→Prop}(hh:A.handled=none)(hS:TxSet prog w s.heap S ls (!ZaS w))(h64:ls.length<64)
  (h:∀(s':Shared) (a:Addr) (us:List Value) (e:Nat),s.heap.get? a=none→(∀b o,s.heap.get? b=some o→s'.heap.get? b=some o)→s'.gens=s.gens→s'.os=s.os→s'.heap.get? a=some { cls:=.type "list",data:=.seq us.toArray e }→Vals ((Zbk ls).map tx) us→Q (.ref a) s'):
  wpAny (model prog w) A (call (.builtin "sorted") [.ref S]) Q E s:=by
 refine Calls.call_function_entry kind_sorted plain_sorted entry_sorted (args_sorted1 _) ?_
 unfold Builtin.«sorted»
 refine wpAny_bind (m:=checkCount "sorted" 1 1 _) (wpAny_pure ?_)
 refine wpAny_bind (ZeO (by first | exact hh | simpa using hh) hS (Nat.le_trans (Nat.le_of_lt h64) (by rw[sizeLine_eq];decide)) fun s' vs ms k1 hg ho hp hv=>?_)
 have hl:ms.length<64:=by rw[hp.length_eq];exact h64
 refine Zgm hv hl fun h' us e k2 he r=>?_
 rw[Zci hp]at r
 exact h _ _ us e (by
  cases q:s.heap.get? s'.heap.objs.size with
  | none=>rfl
  | some o=>exact absurd (Heap.lt_size (k1 _ _ q)) (Nat.lt_irrefl _)) (fun b o q=>k2 b o (k1 b o q)) hg ho he r
end
section
variable {M:Model}{A:Around}{E:Value→Shared→Prop}{s:Shared}{B:Heap}{env:Env}{outer:List Env}{L e:Addr}{C:Value}{d:Option Addr}{Q:Unit→Shared→Prop}
end
end L2
namespace L2
open PySem PySem.Spec PyProof.Rows
open PySem.W (Frag findIn typeIn mroIn clsIn InstAt Looks)
def xr (a C:Addr)(d:Option Addr):HO:=.ext fun h=>∃(o:Obj) (vs:Array Value),h.get? a=some o∧o.cls=.ref C∧o.dict=d∧o.data=.fields vs
inductive XAny (H:Hp) (e C:Addr):List (Str×V)→Prop where
 | un {fs:List (Str×V)}:XAt H e C fs→XAny H e C fs
 | bare:H e=some (xr e C none)→XAny H e C []
 | full {d:Addr} {fs:List (Str×V)}:H e=some (xr e C (some d))→H d=some (xdO d fs)→d≠e→XAny H e C fs
section
variable {M:Model}{A:Around}{E:Value→Shared→Prop}{s:Shared}{env:Env}
end
def ZjU (K:Frag)(Ex:XK)(te:TE):TS:=fun _ σ H=>te σ H fun v H1=>∃e C d,v=.ref e∧H1 e=some (xo e C d)∧Xm K C∧Ex (.ref C) (some e) (upd H1 e (xr e C d))
section
variable {P:Program}{w:World}{K:Frag}{mg:Str→Option Value}{base:Heap}
end
abbrev TX:=St→Hp→VK→XK→Prop
abbrev TSx:=Ends→(St→XK)→St→Hp→Prop
section
variable {X:Cx}{CX:CXT}{k:Nat}{f C:Addr}{fd:FuncData}{ps:List Str}{sp:Sp}{dvs:List V}{ds:List Value}{x m:Str}{p pos apos:Pos}{e o:Expr}{es:List Expr}{ta:TE}{t:TA}
def Zj5 (sp:Sp)(dvs:List V)(t:TA):TX:=fun σ H Q E=>t σ H fun vs H1=>sp (vs++dvs) H1 Q E
def Zmg (i:Nat)(te:TX):TSx:=fun D Ex σ H=>te σ H (fun y H1=>D.nx (σ.set i (some y)) H1) (Ex σ)
def Zj8 (te:TX):TSx:=fun D Ex σ H=>te σ H (fun _ H1=>D.nx σ H1) (Ex σ)
def sIfx (c:TT)(t u:TSx):TSx:=fun D Ex σ H=>c σ H fun b H1=>if b=true then t D Ex σ H1 else u D Ex σ H1
end
section
variable {X:Cx}{pins:List (Addr×Obj)}{σ:St}{H H':Hp}{s s1:Shared}{e C:Addr}{d:Option Addr}{h1 h5 B:Heap}
end
def sux (X:Cx)(e:Addr):Cx:={ X with A:=X.A.mark (some (.ref e)),calm:=false,xe:=fun _ _=>False }
section
variable {X:Cx}{pins:List (Addr×Obj)}{σ:St}{H:Hp}{s:Shared}{e:Addr}
end
abbrev TH:=Addr→Addr→Ends→St→Hp→Prop
def unE (i:Nat)(D:Ends):Ends:={ nx:=fun σ H=>D.nx (σ.set i none) H,rt:=D.rt,bk:=fun σ H=>D.bk (σ.set i none) H,ct:=fun σ H=>D.ct (σ.set i none) H }
def hAs (K:Frag)(C0:Addr)(i:Nat)(ts:TS)(tr:TH):TH:=fun e C D σ H=>∃b,PySem.W.exmOne K (.ref C) (.ref C0)=some b∧if b=true then ts (unE i D) (σ.set i (some (.ref e))) H else tr e C D σ H
def ZmM:TH:=fun _ _ _ _ _=>False
section
variable {X:Cx}{x n:Str}{np pos:Pos}{b₀:Stmt}{suite:List Stmt}{rest:List ExceptHandler}{ts:TS}{tr:TH}{C0:Addr}{i:Nat}
def Zk2 (K:Frag)(C0:Addr)(ts:TS)(tr:TH):TH:=fun e C D σ H=>∃b,PySem.W.exmOne K (.ref C) (.ref C0)=some b∧if b=true then ts D σ H else tr e C D σ H
def tTry (tb:TSx)(th:TH):TS:=fun D σ H=>tb D (fun σ' cls oe H'=>∃e C,cls=.ref C∧oe=some e∧th e C D σ' H') σ H
end
end L2
namespace L2
open PySem PySem.Spec PyProof.Rows
open PySem.W (Frag findIn specialIn typeIn mroIn clsIn subIn kitOne kitCls InstAt Looks)
section
variable {X:Cx}{pins:List (Addr×Obj)}{σ:St}{H:Hp}{s:Shared}{e C:Addr}{fs:List (Str×V)}{f:Str}{v:V}{A:Around}{E:Value→Shared→Prop}
theorem Zip {d:Option Addr}(I:Inv X pins σ H s)(h:H e=some (xr e C d)):∃(o:Obj) (vs:Array Value),s.heap.get? e=some o∧o.cls=.ref C∧o.dict=d∧o.data=.fields vs:=(I.hok e _ h).1
theorem XAny.inst (I:Inv X pins σ H s)(x:XAny H e C fs):∃(ox:Obj) (od:Option Obj),InstAt s.heap e ox C od∧∀name,∃r,(match od with | some o=>PySem.W.lookIn name o | none=>some none)=some r∧RelO (fs.lookup name) r:=by
 cases x with
 | un h=>exact h.inst I
 | bare h=>
  obtain⟨o,vs,h1,h2,h3,h4⟩:=Zip I h
  exact⟨o,none,⟨h1,h2,by unfold PySem.W.notCls;rw[h4],by rw[h3];trivial⟩,fun name=>⟨none,rfl,by trivial⟩⟩
 | @full d _ h h' hne=>
  obtain⟨o,vs,h1,h2,h3,h4⟩:=Zip I h
  obtain⟨⟨_,mA,hn,hr,_⟩,_⟩:=I.hok d _ h'
  obtain⟨od,hod,hl⟩:=Zcv hn
  exact⟨o,some od,⟨h1,h2,by unfold PySem.W.notCls;rw[h4],by rw[h3];exact hod⟩,fun name=>⟨mA name,hl name,hr name⟩⟩
end
def ZjS (K:Frag)(ta:TE)(f:Str):TE:=fun σ H Q=>ta σ H fun x H1=>∃e C fs v,x=.ref e∧XAny H1 e C fs∧Xc K C∧NoAttr K C f∧fs.lookup f=some v∧Q v H1
inductive TyR (K:Frag) (H:Hp):V→Value→Prop where
 | ty {x:V} {t:Value} (h:TyX K H x t):TyR K H x t
 | exc {e C:Addr} {fs:List (Str×V)} (x:XAny H e C fs) (i:Xi K C):TyR K H (.ref e) (.ref C)
theorem ZaY {X:Cx}{K:Frag}(hK:X.K=K):Zb5 X (.builtin "isinstance") (fun xs H Q=>∃x c t k b,xs=[x,c]∧clsV c=some k∧TyR K H x t∧kitOne K t k=some b∧Q (.bl b) H):=by
 subst hK
 rintro pins s σ H xs us Q I r ⟨x,c,t,k,b,rfl,hk,ty,e,q⟩
 cases ty with
 | ty h=>exact ZeR pins s σ H _ us Q I r ⟨x,c,t,k,b,rfl,hk,h,e,q⟩
 | exc xa i=>
  obtain⟨u,v,rfl,ru,rv⟩:=r.two
  have hv:v=k:=by
   cases c with
   | ref a=>cases hk;exact rv
   | ty n=>cases hk;exact rv
   | _=>cases hk
  subst hv
  cases ru
  obtain⟨ox,od,J,_⟩:=xa.inst I
  exact PySem.W.kia_one (Zff i) I.kIn J e (fun z=>nomatch z) fun tk=>⟨.bl b,H,I.tok _,rfl,q⟩
end L2
namespace L2
open PySem PySem.Spec PyProof.Rows
open PySem.W (Frag)
theorem ObjOk.there {P:Program}{w:World}{H:Hp}{h:Heap}{a:Addr}:∀ {o:HO},ObjOk P w H h a o→∃u,h.get? a=some u
 | .lst _,x=>by obtain⟨_,_,_,_,e⟩:=x;exact⟨_,e⟩
 | .tup _,x=>by obtain⟨_,_,_,ob,e,_⟩:=x;exact⟨_,e⟩
 | .dK _,x=>by obtain⟨_,_,_,_,ob,_,_,e,_⟩:=x;exact⟨_,e⟩
 | .dT _,x=>by obtain⟨_,_,_,_,ob,_,_,e,_⟩:=x;exact⟨_,e⟩
 | .set _ _,x=>by obtain⟨ob,_,_,_,e,_⟩:=x;exact⟨_,e⟩
 | .ins _ _ _,x=>by obtain⟨_,_,_,e,_⟩:=x;exact⟨_,e⟩
 | .own _,x=>x
 | .xd _,x=>by obtain⟨_,⟨ob,_,_,e,_⟩,_⟩:=x;exact⟨_,e⟩
 | .met _ _,x=>⟨_,x⟩
 | .rng _ _,x=>by obtain⟨_,_,_,e⟩:=x;exact⟨_,e⟩
 | .frz _ _,x=>⟨_,x.1⟩
 | .tbl _,x=>⟨_,x⟩
 | .ext _,x=>x.2.1
theorem HOk.none_of {P:Program}{w:World}{H:Hp}{h:Heap}{a:Addr}(ok:HOk P w H h)(n:h.get? a=none):H a=none:=by
 cases q:H a with
 | none=>rfl
 | some o=>
  obtain⟨u,hu⟩:=(ok a o q).there
  rw[n]at hu
  cases hu
theorem Inv.laid2 {X:Cx}{pins:List (Addr×Obj)}{σ:St}{H:Hp}{s s':Shared}{a:Addr}{o:HO}(I:Inv X pins σ H s)(os:s'.os=s.os)(hg:s'.gens=s.gens)(k:∀b u,s.heap.get? b=some u→s'.heap.get? b=some u)(nw:s.heap.get? a=none)
  (new:ObjOk X.prog X.w (upd H a o) s'.heap a o):Inv X pins σ (upd H a o) s':=by
 have hn:=I.hok.none_of nw
 have ne:∀b u,s.heap.get? b=some u→b≠a:=fun b u q z=>by rw[z,nw]at q;cases q
 have neH:∀b u,H b=some u→b≠a:=fun b u q=>Zah q hn
 refine I.call' (ch:=[]) os ⟨fun b u q _ _ _=>k b u q,fun b u q _ _ _=>⟨u.slots,k b u q⟩,fun b u q n _=>by rw[Zac (ne b u q)];exact n,fun b u q _=>⟨u,k b u q⟩,fun b xs q=>by rw[Zac (neH b _ q)];exact q,fun b u v q=>by rw[Zac (neH b _ q)];exact q,fun b ps q=>⟨#[],by rw[Zac (neH b _ q),Array.append_empty];exact q⟩⟩
  (fun b u q=>?_) (by rw[hg];exact I.bare) (fun b hb=>by cases hb)
 by_cases hb:b=a
 ·subst hb
  rw[Zaf]at q
  cases q
  exact new
 ·rw[Zac hb]at q
  exact(I.hok b u q).stay (fun c w' _ q=>k c w' q) (fun c q=>by rw[Zac (neH c _ q)];exact q) fun c xs q=>by rw[Zac (neH c _ q)];exact q
section
variable {X:Cx}
def signs (l:List Nat):List (List Nat):=l.map fun c=>[c]
theorem ZeJ {l:List Nat}{acc:Array Value}(h:ItemsOf (SignAt ⟨l.toArray⟩) acc (⟨l.toArray⟩:Str).cps.size):Vals ((signs l).map tx) acc.toList:=by
 obtain⟨h1,h2⟩:=h
 have hl:(⟨l.toArray⟩:Str).cps.size=l.length:=by show l.toArray.size=_;simp
 rw[hl]at h1
 have gen:∀(l:List Nat) (us:List Value),us.length=l.length→(∀(j:Nat) (v:Value),us[j]?=some v→∃(c:Nat) (u:Tok),l[j]?=some c∧v=Value.str ⟨#[c]⟩ u)→Vals ((signs l).map tx) us:=by
  intro l
  induction l with
  | nil=>
   intro us hl _
   have:us=[]:=List.eq_nil_of_length_eq_zero hl
   subst this
   exact .nil
  | cons c l ih=>
   intro us hl h
   cases us with
   | nil=>cases hl
   | cons u us=>
    obtain⟨c',t,e,rfl⟩:=h 0 u rfl
    cases e
    refine .cons ⟨t,rfl⟩ (ih us (by simpa using hl) fun j v e=>h (j+1) v e)
 refine gen l acc.toList (by rw[Array.length_toList,h1]) fun j v e=>?_
 rw[Array.getElem?_toList]at e
 obtain⟨c,u,e1,e2⟩:=h2 j v e
 exact⟨c,u,by simpa using e1,e2⟩
theorem Zeh (hc:X.calm=true):Zb5 X (.type "list") (fun xs H Q=>∃l,xs=[tx l]∧l.length≤1000∧NewL ((signs l).map tx) H Q):=by
 rintro pins s σ H xs us Q I r ⟨l,rfl,hz,q⟩
 obtain⟨u,rfl,t,rfl⟩:=r.one
 have hl:(⟨l.toArray⟩:Str).cps.size=l.length:=by show l.toArray.size=_;simp
 refine call_list_str (I.ok.hd hc) _ t (fun h' tk acc c k e it=>?_) (by rw[hl];exact Nat.le_of_lt (Zcj hz))
 refine⟨.ref s.heap.objs.size,_,I.laid (t':=tk) k (Nat.le_refl _) ?_,rfl,q _ I.fresh⟩
 exact⟨by unfold signs;rw[List.length_map,List.length_map];exact Nat.le_of_lt (Zcj hz),acc.toList,c,ZeJ it,by rw[Array.toArray_toList];exact e⟩
theorem Zhl (hc:X.calm=true):Zb5 X (.builtin "all") (fun xs H Q=>∃(a:Addr) (bs:List Bool),xs=[.ref a]∧H a=some (.lst (bs.map V.bl))∧Q (.bl (bs.all id)) H):=by
 rintro pins s σ H xs us Q I r ⟨a,bs,rfl,ha,q⟩
 obtain⟨u,rfl,ru⟩:=r.one
 cases ru
 obtain⟨_,its,n,r',hlen,e⟩:=I.lstM ha
 have hl:s.heap.IsList a its.toArray:=PySem.IsL.isList e
 have hne:a≠s.heap.objs.size:=Nat.ne_of_lt (Heap.lt_size e)
 refine call_all_walkS (wpAny_pyIter_list hl ?_)
 have hL:its.toArray.size=bs.length:=by rw[List.size_toArray,←r'.length,List.length_map]
 have W:=(Walks.list (prog:=X.prog) (w:=X.w) (A:=X.A.in1) (by simpa using I.ok.hd hc) s.heap.objs.size a hne its.toArray).toS
 refine⟨s.heap.objs.size,_,_,_,_,_,_,fun i=>bs.getD i true,rfl,W,⟨⟨_,Heap.get?_push_size _ rfl,rfl,rfl⟩,hl.push _⟩,?_,fun s' hm=>?_⟩
 ·intro i v s Q E hv hQ
  have e':its[i]?=some v:=by simpa using hv
  obtain⟨x,hx,rx⟩:=Zgb r' e'
  rw[List.getElem?_map]at hx
  cases hb:bs[i]? with
  | none=>rw[hb]at hx;cases hx
  | some b=>
   rw[hb]at hx
   cases hx
   obtain rfl:v=Value.bool b:=rx
   have:bs.getD i true=b:=by rw[List.getD_eq_getElem?_getD,hb];rfl
   have hQ':Q (bs.getD i true) s:=hQ
   rw[this]at hQ'
   exact wpAny_truthy_bool hQ'
 ·have ea:(List.range its.toArray.size).all (fun i=>bs.getD i true)=bs.all id:=by
   rw[hL]
   rw[Bool.eq_iff_iff,List.all_eq_true,List.all_eq_true]
   constructor
   ·intro h b hb
    obtain⟨i,hi,rfl⟩:=List.getElem_of_mem hb
    have:=h i (List.mem_range.mpr hi)
    rw[List.getD_eq_getElem?_getD,List.getElem?_eq_getElem hi]at this
    exact this
   ·intro h i hi
    have hi:=List.mem_range.mp hi
    rw[List.getD_eq_getElem?_getD,List.getElem?_eq_getElem hi]
    exact h _ (List.getElem_mem hi)
  rw[ea]
  have I2:Inv X pins σ H s':=I.call' (ch:=[]) hm.os (Un.kept fun b o q=>hm.heap b o (fun z=>?_) (Heap.get?_push_of_some _ q)) (I.hok.kept fun b o q=>hm.heap b o (fun z=>?_) (Heap.get?_push_of_some _ q)) (by rw[show s'.gens=s.gens from hm.gens];exact I.bare) (fun b hb=>by cases hb)
  ·exact⟨.bl _,H,I2,rfl,q⟩
  ·have z:b=s.heap.objs.size:=by simpa using z
   rw[z]at q;exact absurd (Heap.lt_size q) (Nat.lt_irrefl _)
  ·have z:b=s.heap.objs.size:=by simpa using z
   rw[z]at q;exact absurd (Heap.lt_size q) (Nat.lt_irrefl _)
def tset (P:Program)(w:World)(a:Addr)(ls:List (List Nat)):HO:=.ext fun h=>TxSet P w h a ls (!ZaS w)
theorem ZiR {P:Program}{w:World}{H:Hp}{h:Heap}{a:Addr}{ls:List (List Nat)}(x:TxSet P w h a ls (!ZaS w)):ObjOk P w H h a (tset P w a ls):=by
 obtain⟨o,es,ep,t,ms,h1,r⟩:=id x
 exact⟨x,⟨o,h1⟩,fun g1 g2 y k=>y.keep k⟩
def ddl (ls:List (List Nat)):List (List Nat):=ls.foldl addT []
theorem Zhi {ls:List (List Nat)}:dd (fun i=>ls.getD i []) ls.length=ddl ls:=by
 unfold dd ddl
 congr 1
 apply List.ext_getElem
 ·simp
 ·intro n h1 h2
  simp[h2]
theorem ZeQ (hc:X.calm=true):Zb5 X (.type "set") (fun xs H Q=>∃ls:List (List Nat),ls.length≤1000∧((∃l,xs=[tx l]∧ls=signs l)∨∃a,xs=[.ref a]∧SqL X.K H a (ls.map tx))∧∀p,H p=none→Q (.ref p) (upd H p (tset X.prog X.w p (ddl ls)))):=by
 rintro pins s σ H xs us Q I r ⟨ls,hz,hx,q⟩
 have hb:ls.length+1<scanBound:=by show _<4096;omega
 have fin:∀(h':Heap) (tk:Nat),TxSet X.prog X.w h' s.heap.objs.size (ddl ls) (!ZaS X.w)→(∀b o,s.heap.get? b=some o→h'.get? b=some o)→EP X pins σ Q (.ref s.heap.objs.size) { s with heap:=h',toks:=tk }:=fun h' tk hS k=>
  ⟨.ref s.heap.objs.size,_,I.laid (t':=tk) k (Nat.le_refl _) (ZiR hS),rfl,q _ I.fresh⟩
 rcases hx with⟨l,rfl,rfl⟩|⟨a,rfl,hq⟩
 ·obtain⟨u,rfl,t,rfl⟩:=r.one
  have hl:(signs l).length=l.length:=by unfold signs;rw[List.length_map]
  have e0:dd (fun i=>[l.getD i 0]) l.length=ddl (signs l):=by
   unfold dd ddl signs
   congr 1
   apply List.ext_getElem
   ·simp
   ·intro n h1 h2
    have:n<l.length:=by simpa using h2
    simp[this]
  refine Ze4 (I.ok.hd hc) (Zeq (prog:=X.prog) (w:=X.w) (s:=s) (l:=l) (t:=t)) F.sub_str_set F.sub_str_frozenset (by decide) (by rw[←hl];exact hb) fun h' tk hS k _=>?_
  rw[e0]at hS
  exact fin h' tk hS k
 ·obtain⟨u,rfl,ru⟩:=r.one
  cases ru
  obtain⟨its,rv,p,_⟩:=I.list hq
  refine Ze4 (I.ok.hd hc) (Zer (prog:=X.prog) (w:=X.w) (s:=s) p.isList rv) F.sub_list_set F.sub_list_frozenset (by decide) hb fun h' tk hS k _=>?_
  rw[Zhi]at hS
  exact fin h' tk hS k
theorem ZcM (hc:X.calm=true):Zb5 X (.builtin "sorted") (fun xs H Q=>∃a ls,xs=[.ref a]∧H a=some (tset X.prog X.w a ls)∧ls.length<64∧NewL ((Zbk ls).map tx) H Q):=by
 rintro pins s σ H xs us Q I r ⟨a,ls,rfl,ha,h64,q⟩
 obtain⟨u,rfl,ru⟩:=r.one
 cases ru
 have hS:TxSet X.prog X.w s.heap a ls (!ZaS X.w):=(I.hok a _ ha).1
 refine ZfF (I.ok.hd hc) hS h64 fun s' b us e nw k hg ho hb rv=>?_
 have hl:(Zbk ls).length≤sizeLine:=by rw[(ZaI ls).length_eq];exact Nat.le_trans (Nat.le_of_lt h64) (by rw[sizeLine_eq];decide)
 exact⟨.ref b,_,I.laid2 (o:=.lst ((Zbk ls).map tx)) ho hg k nw ⟨by rw[List.length_map];exact hl,us,e,rv,hb⟩,rfl,q b (I.hok.none_of nw)⟩
end
theorem Zcr {X:Cx}{x:Str}{l:List Nat}{j:Nat}{pos:Pos}(h:x=⟨l.toArray⟩):PE X (.Constant (.str x) j pos) (tC (tx l)):=by subst h;exact Zkk
theorem ZhO {X:Cx} {x y:Str} {pos:Pos} (hg:Gl X x) (hm:∃t,X.mg x=some (.str y t)) (hd:(x == ("__debug__":Str))=false:=by decide):PE X (.Name x pos) (tC (.str y)):=by
 obtain⟨t,h⟩:=hm
 exact ZgA hg h ⟨t,rfl⟩ hd
theorem Zdn {X:Cx} {x:Str} {y:Int} {pos:Pos} (hg:Gl X x) (hm:∃t,X.mg x=some (.int y t)) (hd:(x == ("__debug__":Str))=false:=by decide):PE X (.Name x pos) (tC (.int y)):=by
 obtain⟨t,h⟩:=hm
 exact ZgA hg h ⟨t,rfl⟩ hd
section
variable {CX:CXT}{P:Program}{w:World}{K:PySem.W.Frag}{mg:Str→Option Value}{base:Heap}{N:List Str}{qual:Str}{scope:Scope}{f:Addr}{cd:Value}{A:Around}{outer:List Env}{s:Shared}{H:Hp}{E:XK}{X:Cx}{e:Addr}
theorem cxPr:(cxOf CX P w K mg base N qual scope f cd A outer s H E).prog=P:=rfl
theorem cxWo:(cxOf CX P w K mg base N qual scope f cd A outer s H E).w=w:=rfl
theorem suxK:(sux X e).K=X.K:=rfl
theorem Zlr:(sux X e).prog=X.prog:=rfl
theorem Zlq:(sux X e).w=X.w:=rfl
end
end L2
namespace L2
open PySem PySem.Spec PyProof.Rows
open PySem.W (Frag KeqHits)
theorem Zd7 {κ:Type}[DecidableEq κ]{A:Around}{s:Shared}{kb:List (κ×Value)}(nd:(kb.map (·.1)).Nodup):∀(r:List (κ×Value)),(∀x∈r,x∈kb)→KeqHits A s kb r true
 | [],_=>.nil
 | (k,v)::r,hm=>by
  have h1:valueAt kb k=some v:=by
   unfold valueAt
   have hin:=hm (k,v) List.mem_cons_self
   obtain⟨y,hy,e⟩:∃y,kb.find? (fun kv=>kv.1=k)=some y∧y=(k,v):=by
    clear hm
    induction kb with
    | nil=>cases hin
    | cons z kb ih=>
     rw[List.map_cons,List.nodup_cons]at nd
     rcases List.mem_cons.mp hin with e | e
     ·subst e;exact⟨_,by simp,rfl⟩
     ·have hz:¬z.1=k:=fun e'=>nd.1 (e'▸List.mem_map_of_mem (f:=(·.1)) e)
      obtain⟨y,hy,e2⟩:=ih nd.2 e
      exact⟨y,by rw[List.find?_cons_of_neg (by simpa using hz)];exact hy,e2⟩
   rw[hy,e];rfl
  exact .hit (e:=true) (b:=true) h1 (SeqAt.EqAt.same _) (Zd7 nd r fun x hx=>hm x (List.mem_cons_of_mem _ hx))
def rEqS (K:Frag)(neg:Bool):R2:=fun x y H Q=>rEqD K neg x y H Q∨∃(a:Addr) (kvs:List (Key×V)),x=.ref a∧y=.ref a∧H a=some (.dK kvs)∧Q (.bl (!neg)) H
section
variable {X:Cx}{K:Frag}
theorem Zkp (hK:X.K=K)(hu:X.A.units+64<cLine):OpR X (compareOp .Eq) (rEqS K false):=by
 subst hK
 intro pins s σ H x y v u Q I rx ry h
 rcases h with h | ⟨a,kvs,rfl,rfl,e,q⟩
 ·exact Ziv hu pins s σ H x y v u Q I rx ry h
 ·cases rx;cases ry
  obtain⟨_,hm,vs,_,d⟩:=Zjy I.hok e
  have nd:(vs.map (·.1)).Nodup:=let ⟨_,_,_,_,_,_,_,_,n⟩:=d;n
  exact PySem.W.keq_eq hm hm d d (by omega) (fun _=>Zd7 nd vs fun _ hx=>hx) ⟨.bl true,H,I,by simp;rfl,q⟩
end
end L2
namespace L2
open PySem PySem.Spec PyProof.Rows
open PySem.W (Frag)
end L2
namespace L2
open PySem PySem.Spec PyProof.Rows
section
variable {prog:Program}{w:World}{A:Around}{E:Value→Shared→Prop}{s:Shared}
variable {z TI TO i1 i2:Addr}{f1 f2:List Addr}{n i:Nat}{P1 P2:Nat→Value→Prop}{S1 S2:Nat→Heap→Prop}{a b:Value}
end
section
variable {prog:Program}{w:World}{A:Around}{E:Value→Shared→Prop}{s:Shared}{z TI TO i1 i2:Addr}{f1 f2:List Addr}{n i:Nat}{P1 P2:Nat→Value→Prop}{S1 S2:Nat→Heap→Prop}{a b:Value}
end
def Itz (K:PySem.W.Frag)(a b:Addr):It:=
  ⟨fun i H=>∃xs ys x y,SqT K H a xs∧SqT K H b ys∧xs.length=ys.length∧xs[i]?=some x∧ys[i]?=some y,
   fun i H v H'=>∃p x y,H p=none∧v=.ref p∧H'=upd H p (.tup [x,y])∧(∀xs,SqT K H a xs→xs[i]?=some x)∧∀ys,SqT K H b ys→ys[i]?=some y,
   fun i H=>∃xs ys,SqT K H a xs∧SqT K H b ys∧xs.length=ys.length∧xs.length=i⟩
section
variable {X:Cx}{es:List Expr}{x1:Nat}{tp:Pos}
def iZip (K:PySem.W.Frag)(ta:TA):TI:=fun σ H R=>ta σ H fun vs H1=>∃a b,vs=[.ref a,.ref b]∧(∃xs,SqT K H1 a xs)∧(∃ys,SqT K H1 b ys)∧R (Itz K a b) H1
end
section
variable {prog:Program}{w:World}{A:Around}{E:Value→Shared→Prop}{s:Shared}{l I S:Addr}{ls:List (List Nat)}{vs:List Value}{R:Result→Shared→Prop}{Q:Value→Shared→Prop}
end
section
variable {X:Cx}{e:Expr}{ta:TA}{p p2 pos kpos:Pos}
def repT (l:List Nat)(n:Int):List Nat:=(List.replicate n.toNat l).flatten
theorem Zea (a:Array Nat):∀(n:Nat) (acc:Array Nat),((List.replicate n a).foldl (·++·) acc).toList=acc.toList++(List.replicate n a.toList).flatten
 | 0,acc=>by simp
 | n+1,acc=>by
  rw[List.replicate_succ,List.foldl_cons,Zea a n,List.replicate_succ]
  simp
theorem ZkD (l:List Nat)(n:Int):Txt.mul ⟨l.toArray⟩ n=⟨(repT l n).toArray⟩:=by
 unfold Txt.mul repT
 by_cases h1:n<1
 ·rw[if_pos h1]
  have:n.toNat=0:=by omega
  rw[this];rfl
 ·rw[if_neg h1]
  split
  ·rename_i h
   rw[Bool.or_eq_true]at h
   rcases h with h | h
   ·have:n=1:=by simpa using h
    subst this
    simp
   ·have:l=[]:=by
     have:=beq_iff_eq.mp h
     rw[Zcg]at this
     exact List.length_eq_zero_iff.mp this
    subst this
    simp
  ·congr 1
   apply Array.ext'
   rw[Zea]
   simp
theorem ZgD:OpR X (binaryOp .Mult) (fun x y H Q=>∃l n,x=tx l∧y=.int n∧0≤n∧n≤1000∧l.length≤1000∧Q (tx (repT l n)) H):=by
 rintro pins s σ H x y v u Q I rx ry ⟨l,n,rfl,rfl,h0,h1,h2,q⟩
 obtain⟨t,rfl⟩:=rx
 obtain⟨t',rfl⟩:=ry
 have e1:(⟨l.toArray⟩:Str).length=l.length:=Zcg l
 refine SB.mul ⟨?_,fun a b=>?_,fun a b=>?_⟩ fun t2 k=>?_
 ·simp only[Bool.or_eq_false_iff,decide_eq_false_iff_not];omega
 ·rw[e1]
  have e3:(1000:Int)≤(2 ^ 63-1)/n:=by
   rw[Int.le_ediv_iff_mul_le (by omega)]
   omega
  omega
 ·rw[e1]
  have:l.length*n.toNat≤1000*1000:=Nat.mul_le_mul h2 (by omega)
  unfold Builtin.Str.tooLong
  simp only[decide_eq_false_iff_not]
  rw[sizeLine_eq]
  omega
 ·rw[ZkD];exact⟨tx _,H,I.tok _,⟨_,rfl⟩,q⟩
end
end L2
namespace L2
open PySem PySem.Spec PyProof.Rows
open PySem.W (Frag)
theorem ZdX {X:Cx} {K:Frag} {T id:String} {name:Str} {o e:Expr} {es:List Expr} {to:TE} {t:TA} {apos cpos:Pos} {r:V→List V→Hp→VK→Prop} (hK:X.K=K) (pa:PlainAttrs T) (slot:Slot T name id) (hty:typeOf (.builtin id)=pure (.type "method_descriptor")) (hm:MtR X id r) (ho:PE X o to) (ha:PA X (e::es) t)
  (hbase:attributeBase o name X.env (eval o X.env)=eval o X.env:=by rfl)
  (hfew:((backTo cpos (starEach (e::es) X.env)).all (fun x=>!x.1)&&(backToKw cpos (keywordEach [] X.env)).all (fun x=>x.1.isSome)&&decide ((e::es).length+([]:List Keyword).length+(if ([]:List Keyword).isEmpty then 0 else 1)<30))=true:=by rfl)
  (hline:(apos.endLine == cpos.line)=true:=by rfl) (hs:starEach (e::es) X.env=(false,eval e X.env)::starEach es X.env:=by rfl) (hplain:(backTo cpos (starEach es X.env)).any (·.1)=false:=by rfl):PE X (.Call (.Attribute o name apos) (e::es) [] cpos) (tBM K T r to t):=by
 subst hK
 exact ZfM pa slot hty hm ho ha hbase hfew hline hs hplain
def sNo:TS:=fun _ _ _=>False
theorem ZhM {X:Cx}{st:Stmt}:PS X st sNo:=fun _ _ _ _ _ _ h=>h.elim
section
variable {X:Cx}{CX:CXT}{k:Nat}{L f:Addr}{fd:FuncData}{ps:List Str}{sp:Sp}{E:XK}{x:Str}{pos apos np:Pos}{e:Expr}{es:List Expr}{t:TA}{ds:List Value}{dvs:List V}
end
def WhileRun (c:TT)(tb:TS)(D:Ends)(σ:St)(H:Hp):Prop:=Zgg c tb D σ H
theorem Zi5 {c:TT}{tb:TS}{D:Ends}{σ:St}{H:Hp}:Zgg c tb D σ H=WhileRun c tb D σ H:=rfl
theorem WhileRun.by {c:TT}{tb:TS}{D:Ends}{σ:St}{H:Hp}(Pv:St→Hp→Prop)(μ:St→Hp→Nat)(h0:Pv σ H)
  (hs:∀σ H,Pv σ H→∃b:Bool,(∀Q:Bool→Hp→Prop,(∀H1,Same H H1→Q b H1)→c σ H Q)∧∀H1,Same H H1→if b=true then tb { D with nx:=fun σ' H'=>Pv σ' H'∧μ σ' H'<μ σ H,ct:=fun σ' H'=>Pv σ' H'∧μ σ' H'<μ σ H,bk:=D.nx } σ H1 else D.nx σ H1):WhileRun c tb D σ H:=by
 refine⟨fun m σ H=>m=μ σ H∧Pv σ H,⟨_,rfl,h0⟩,?_⟩
 rintro m σ H ⟨rfl,p⟩
 obtain⟨b,hc,hb⟩:=hs σ H p
 refine hc _ fun H1 s1=>?_
 have q:=hb H1 s1
 cases b with
 | true=>exact⟨_,fun σ' H' ⟨p',l⟩=>⟨_,l,rfl,p'⟩,q⟩
 | false=>exact q
end L2
namespace L2
open PySem PySem.Spec PyProof.Rows
noncomputable def gal:Bool→Keyed→Array Keyed→Nat→Nat→Nat→StateT SortSt Sem (Option Nat):=sortPriv% PySem.Builtin.gallop
noncomputable def galB (bey:Nat→StateT SortSt Sem (Option Bool)) (n h:Nat):StateT SortSt Sem (Option Nat):=do
  let mut la:=0
  let mut o:=1
  let mut lo:=0
  let mut hi:=0
  let some rt ←bey h | return none
  if rt then
   let mx:=n-h
   for _ in [0:n] do
    if o≥mx then break
    let some mo ←bey (h+o) | return none
    if !mo then break
    la:=o
    o:=2*o+1
   lo:=h+la+1
   hi:=h+min o mx
  else
   let mx:=h+1
   for _ in [0:n] do
    if o≥mx then break
    let some fo ←bey (h-o) | return none
    if fo then break
    la:=o
    o:=2*o+1
   lo:=h+1-min o mx
   hi:=h-la
  for _ in [0:n] do
   if lo≥hi then break
   let m:=lo+(hi-lo)/2
   let some mo ←bey m | return none
   if mo then lo:=m+1 else hi:=m
  return some hi
noncomputable def beyOf (lf:Bool) (ky:Keyed) (ar:Array Keyed) (bs:Nat) (i:Nat):StateT SortSt Sem (Option Bool):=do
 let x ←elem' ar (bs+i)
 if lf then lt' x ky else return (←lt' ky x).map (!·)
theorem Zk3 (lf:Bool)(ky:Keyed)(ar:Array Keyed)(bs n h:Nat):gal lf ky ar bs n h=galB (beyOf lf ky ar bs) n h:=rfl
noncomputable def galT (bey:Nat→StateT SortSt Sem (Option Bool)) (n l0 h0:Nat):StateT SortSt Sem (Option Nat):=do
  let mut lo:=l0
  let mut hi:=h0
  for _ in [0:n] do
   if lo≥hi then break
   let m:=lo+(hi-lo)/2
   let some mo ←bey m | return none
   if mo then lo:=m+1 else hi:=m
  return some hi
section
variable {M:Model}{A:Around}{E:Value→Shared→Prop}{s:Shared}{bey:Nat→StateT SortSt Sem (Option Bool)}{B:Nat→Bool}{n h:Nat}{st:SortSt}{Q:Option Nat→SortSt→Prop}
noncomputable def Parts (B:Nat→Bool) (n lo hi:Nat):Prop:=(∀i,i<lo→B i=true)∧∀i,hi≤i→i<n→B i=false
theorem Zju {lo hi:Nat}(hb:∀i (Q:Option Bool→SortSt→Prop),i<n→Q (some (B i)) st→wpS M A E s (bey i) Q st)(mono:∀i j,i≤j→j<n→B j=true→B i=true)(h1:lo≤hi)(h2:hi≤n)(hp:Parts B n lo hi)
  (q:∀k,k≤n→Parts B n k k→Q (some k) st):wpS M A E s (galT bey n lo hi) Q st:=by
 unfold galT
 refine wpS_bind (wpS_mono (wpS_forRange (I:=fun i c st'=>st'=st∧∃lo hi,c=(none,lo,hi)∧lo≤hi∧hi≤n∧hi-lo≤n-i∧Parts B n lo hi) (Q:=fun c st'=>st'=st∧∃k,c=(none,k,k)∧k≤n∧Parts B n k k) ?step ?fin ⟨rfl,lo,hi,rfl,h1,h2,by omega,hp⟩) ?post)
 case step=>
  rintro i c st' _ hi' ⟨rfl,lo,hi,rfl,h1,h2,h3,hp⟩
  dsimp only
  by_cases hl:lo≥hi
  ·have e:lo=hi:=by omega
   subst e
   rw[if_pos hl]
   exact wpS_pure ⟨rfl,lo,rfl,h2,hp⟩
  ·rw[if_neg hl]
   have hm1:lo≤lo+(hi-lo)/2:=by omega
   have hm2:lo+(hi-lo)/2<hi:=by omega
   generalize lo+(hi-lo)/2=m at hm1 hm2
   refine wpS_bind (hb m _ (by omega) ?_)
   cases hB:B m with
   | true=>exact wpS_pure ⟨rfl,m+1,hi,rfl,by omega,h2,by omega,fun i hi=>mono i m (by omega) (by omega) hB,hp.2⟩
   | false=>
    refine wpS_pure ⟨rfl,lo,m,rfl,by omega,by omega,by omega,hp.1,fun i hi hn=>?_⟩
    cases hx:B i with
    | false=>rfl
    | true=>rw[mono m i hi hn hx]at hB;cases hB
 case fin=>
  rintro c st' ⟨rfl,lo,hi,rfl,h1,h2,h3,hp⟩
  have e:lo=hi:=by omega
  subst e
  exact⟨rfl,lo,rfl,h2,hp⟩
 case post=>
  rintro c st' ⟨rfl,k,rfl,hk,hp⟩
  exact wpS_pure (q k hk hp)
theorem Zjv (hh:h<n)
  (hb:∀i (Q:Option Bool→SortSt→Prop),i<n→Q (some (B i)) st→wpS M A E s (bey i) Q st) (mono:∀i j,i≤j→j<n→B j=true→B i=true)
  (q:∀k,k≤n→Parts B n k k→Q (some k) st):wpS M A E s (galB bey n h) Q st:=by
 have anti:∀ {i j},B i=false→i≤j→j<n→B j=false:=fun {i j} h1 h2 h3=>by
  cases hx:B j with
  | false=>rfl
  | true=>rw[mono i j h2 h3 hx]at h1;cases h1
 have jp:∀lo hi,lo≤hi→hi≤n→Parts B n lo hi→wpS M A E s (galT bey n lo hi) Q st:=fun lo hi a b c=>Zju hb mono a b c q
 unfold galB
 refine wpS_bind (hb h _ hh ?_)
 cases hB:B h with
 | true=>
  dsimp only
  rw[if_pos rfl]
  refine wpS_bind (wpS_mono (wpS_forRange (I:=fun i c st'=>st'=st∧∃la o,c=(none,la,o)∧i<o∧la<o∧h+la<n∧B (h+la)=true) (Q:=fun c st'=>st'=st∧∃la o,c=(none,la,o)∧la<o∧h+la<n∧B (h+la)=true∧(n-h≤o∨B (h+o)=false)) ?step ?fin ⟨rfl,0,1,rfl,by omega,by omega,by omega,hB⟩) ?post)
  case step=>
   rintro i c st' _ hi' ⟨rfl,la,o,rfl,h1,h2,h3,h4⟩
   dsimp only
   by_cases hl:o≥n-h
   ·rw[if_pos hl]
    exact wpS_pure ⟨rfl,la,o,rfl,h2,h3,h4,.inl hl⟩
   ·rw[if_neg hl]
    refine wpS_bind (hb (h+o) _ (by omega) ?_)
    cases hx:B (h+o) with
    | false=>exact wpS_pure ⟨rfl,la,o,rfl,h2,h3,h4,.inr hx⟩
    | true=>exact wpS_pure ⟨rfl,o,2*o+1,rfl,by omega,by omega,by omega,hx⟩
  case fin=>
   rintro c st' ⟨rfl,la,o,rfl,h1,h2,h3,h4⟩
   exact⟨rfl,la,o,rfl,h2,h3,h4,.inl (by omega)⟩
  case post=>
   rintro c st' ⟨rfl,la,o,rfl,h2,h3,h4,h5⟩
   refine jp (h+la+1) (h+min o (n-h)) (by omega) (by omega) ⟨fun i hi=>mono i (h+la) (by omega) h3 h4,fun i hi hn=>?_⟩
   rcases h5 with h5 | h5
   ·omega
   ·exact anti h5 (by omega) hn
 | false=>
  dsimp only
  rw[if_neg Bool.false_ne_true]
  refine wpS_bind (wpS_mono (wpS_forRange (I:=fun i c st'=>st'=st∧∃la o,c=(none,la,o)∧i<o∧la<o∧la≤h∧B (h-la)=false) (Q:=fun c st'=>st'=st∧∃la o,c=(none,la,o)∧la<o∧la≤h∧B (h-la)=false∧(h+1≤o∨(o≤h∧B (h-o)=true))) ?step2 ?fin2 ⟨rfl,0,1,rfl,by omega,by omega,by omega,hB⟩) ?post2)
  case step2=>
   rintro i c st' _ hi' ⟨rfl,la,o,rfl,h1,h2,h3,h4⟩
   dsimp only
   by_cases hl:o≥h+1
   ·rw[if_pos hl]
    exact wpS_pure ⟨rfl,la,o,rfl,h2,h3,h4,.inl hl⟩
   ·rw[if_neg hl]
    refine wpS_bind (hb (h-o) _ (by omega) ?_)
    cases hx:B (h-o) with
    | true=>exact wpS_pure ⟨rfl,la,o,rfl,h2,h3,h4,.inr ⟨by omega,hx⟩⟩
    | false=>exact wpS_pure ⟨rfl,o,2*o+1,rfl,by omega,by omega,by omega,hx⟩
  case fin2=>
   rintro c st' ⟨rfl,la,o,rfl,h1,h2,h3,h4⟩
   exact⟨rfl,la,o,rfl,h2,h3,h4,.inl (by omega)⟩
  case post2=>
   rintro c st' ⟨rfl,la,o,rfl,h2,h3,h4,h5⟩
   refine jp (h+1-min o (h+1)) (h-la) (by omega) (by omega) ⟨fun i hi=>?_,fun i hi hn=>anti h4 hi hn⟩
   rcases h5 with h5 | ⟨h5,h6⟩
   ·omega
   ·exact mono i (h-o) (by omega) (by omega) h6
end
structure Cmp (D:Keyed→Prop)(L:Keyed→Keyed→Bool):Prop where
 asym:∀x y,D x→D y→L x y=true→L y x=false
 tr:∀x y z,D x→D y→D z→L y x=false→L z y=false→L z x=false
abbrev Le (L:Keyed→Keyed→Bool)(x y:Keyed):Prop:=L y x=false
structure MS (D:Keyed→Prop)(L:Keyed→Keyed→Bool)(T:List Keyed)(o x y:List Keyed):Prop where
 perm:(o++(x++y)).Perm T
 so:o.Pairwise (Le L)
 ox:∀u∈o,∀v∈x,Le L u v
 oy:∀u∈o,∀v∈y,Le L u v
 sx:x.Pairwise (Le L)
 sy:y.Pairwise (Le L)
section
variable {D:Keyed→Prop}{L:Keyed→Keyed→Bool}{T o x y p:List Keyed}
theorem MS.movX (h:MS D L T o (p++x) y)(hp:∀u∈p,∀v∈y,Le L u v):MS D L T (o++p) x y:=by
 obtain⟨h1,h2,h3,h4,h5,h6⟩:=h
 rw[List.pairwise_append]at h5
 refine⟨by simpa [List.append_assoc] using h1,List.pairwise_append.mpr ⟨h2,h5.1,fun u hu v hv=>h3 u hu v (by simp[hv])⟩,?_,?_,h5.2.1,h6⟩
 ·intro u hu v hv
  rcases List.mem_append.mp hu with hu | hu
  ·exact h3 u hu v (by simp[hv])
  ·exact h5.2.2 u hu v hv
 ·intro u hu v hv
  rcases List.mem_append.mp hu with hu | hu
  ·exact h4 u hu v hv
  ·exact hp u hu v hv
theorem MS.swap (h:MS D L T o x y):MS D L T o y x:=
 ⟨(List.Perm.append_left o List.perm_append_comm).trans h.perm,h.so,h.oy,h.ox,h.sy,h.sx⟩
theorem MS.movY (h:MS D L T o x (p++y))(hp:∀u∈p,∀v∈x,Le L u v):MS D L T (o++p) x y:=(h.swap.movX hp).swap
theorem MS.fin (h:MS D L T o x []):(o++x).Perm T∧(o++x).Pairwise (Le L):=
 ⟨by simpa using h.perm,List.pairwise_append.mpr ⟨h.so,h.sx,h.ox⟩⟩
theorem MS.all (h:MS D L T o x y)(hxy:∀u∈x,∀v∈y,Le L u v):(o++x++y).Perm T∧(o++x++y).Pairwise (Le L):=by
 have:=(MS.movX (x:=[]) (by simpa using h) hxy).swap.fin
 simpa using this
end
noncomputable def mLo:Array Keyed→Array Keyed→StateT SortSt Sem (Array Keyed):=sortPriv% PySem.Builtin.mergeLo
abbrev Zar (st:SortSt)(g:Nat):SortSt:=SortSt.mk' (kindOf st) (arrOf st) (pendingOf st) g (failedOf st)
noncomputable def setG (g:Nat):StateT SortSt Sem Unit:=modify fun s=>Zar s g
noncomputable def mLoB (p q:Array Keyed):StateT SortSt Sem (Array Keyed):=do
 rule "list.sort.merge-lo"
 let tt:=p.size+q.size
 let dn (o:Array Keyed) (i j:Nat):=o++p.extract i p.size++q.extract j q.size
 let lp (o:Array Keyed) (i j:Nat):=o++q.extract j q.size++p.extract i p.size
 let mut o:Array Keyed:=#[←elem' q 0]
 let mut i:=0
 let mut j:=1
 if j == q.size then return dn o i j
 if i+1 == p.size then return lp o i j
 let mut mg:=gallopOf (←get)
 for _ in [0:tt] do
  let mut ca:=0
  let mut cb:=0
  for _ in [0:tt] do
   let some wn ←lt' (←elem' q j) (←elem' p i) | return dn o i j
   if wn then
    o:=o.push (←elem' q j);j:=j+1;cb:=cb+1;ca:=0
    if j == q.size then return dn o i j
    if cb≥mg then break
   else
    o:=o.push (←elem' p i);i:=i+1;ca:=ca+1;cb:=0
    if i+1 == p.size then return lp o i j
    if ca≥mg then break
  rule "list.sort.gallop"
  mg:=mg+1
  for _ in [0:tt] do
   if mg>1 then mg:=mg-1
   setG mg
   let some k ←gal false (←elem' q j) p i (p.size-i) 0 | return dn o i j
   ca:=k
   if k>0 then
    o:=o++p.extract i (i+k);i:=i+k
    if i+1 == p.size then return lp o i j
    if i == p.size then return dn o i j
   o:=o.push (←elem' q j);j:=j+1
   if j == q.size then return dn o i j
   let some k ←gal true (←elem' p i) q j (q.size-j) 0 | return dn o i j
   cb:=k
   if k>0 then
    o:=o++q.extract j (j+k);j:=j+k
    if j == q.size then return dn o i j
   o:=o.push (←elem' p i);i:=i+1
   if i+1 == p.size then return lp o i j
   if ca<7&&cb<7 then break
  mg:=mg+1
  setG mg
 unsupported "internal:list.sort.merge-bound"
theorem ZkF (p q:Array Keyed):mLo p q=mLoB p q:=rfl
section
variable {M:Model}{A:Around}{E:Value→Shared→Prop}{s:Shared}{D:Keyed→Prop}{L:Keyed→Keyed→Bool}{kd:SortKind}
noncomputable def PureC (M:Model) (A:Around) (E:Value→Shared→Prop) (s:Shared) (D:Keyed→Prop) (L:Keyed→Keyed→Bool) (kd:SortKind):Prop:=
 ∀(st:SortSt) (x y:Keyed) (Q:Option Bool→SortSt→Prop),kindOf st=kd→D x→D y→Q (some (L x y)) st→wpS M A E s (lt' x y) Q st
theorem ZaG {ar:Array Keyed}{i:Nat}{x:Keyed}{Q:Keyed→SortSt→Prop}{st:SortSt}(h:ar[i]?=some x)(q:Q x st):wpS M A E s (elem' ar i) Q st:=by
 rw[elem'_eq,h];exact wpS_pure q
theorem Zc7 (hC:Cmp D L)(hP:PureC M A E s D L kd){lf:Bool}{ky:Keyed}{ar:Array Keyed}{bs n h:Nat}{st:SortSt}{Q:Option Nat→SortSt→Prop}(hk:kindOf st=kd)
  (hn:bs+n≤ar.size) (hh:h<n) (hy:D ky) (hd:∀u∈ar.toList,D u) (hs:((ar.toList.drop bs).take n).Pairwise (Le L))
  (q:∀k,k≤n→(∀u∈((ar.toList.drop bs).take n).take k,if lf then L u ky=true else Le L u ky)→(∀u∈((ar.toList.drop bs).take n).drop k,if lf then Le L ky u else L ky u=true)→Q (some k) st):
  wpS M A E s (gal lf ky ar bs n h) Q st:=by
 rw[Zk3]
 obtain⟨xs,hxs⟩:∃xs,xs=(ar.toList.drop bs).take n:=⟨_,rfl⟩
 rw[←hxs]at hs q
 have hlen:xs.length=n:=by rw[hxs,List.length_take,List.length_drop,Array.length_toList];omega
 have hat:∀i (hi:i<xs.length),ar[bs+i]?=some xs[i]:=by
  intro i hi
  have:xs[i]?=some xs[i]:=List.getElem?_eq_getElem hi
  rw[←this,hxs,List.getElem?_take,if_pos (by omega),List.getElem?_drop,Array.getElem?_toList]
 have hdx:∀u∈xs,D u:=fun u hu=>hd u (List.mem_of_mem_drop (List.mem_of_mem_take (hxs▸hu)))
 refine Zjv (B:=fun i=>if hi:i<xs.length then (if lf then L xs[i] ky else !L ky xs[i]) else false) hh ?_ ?_ ?_
 ·intro i Q hi hq
  have hi':i<xs.length:=by omega
  rw[dif_pos hi']at hq
  refine wpS_bind (ZaG (hat i hi') ?_)
  have hD:=hdx _ (List.getElem_mem hi')
  cases lf with
  | true=>exact hP st _ _ _ hk hD hy hq
  | false=>exact wpS_bind (hP st _ _ _ hk hy hD (wpS_pure hq))
 ·intro i j hij hj
  have hj':j<xs.length:=by omega
  have hi':i<xs.length:=by omega
  rw[dif_pos hj',dif_pos hi']
  by_cases e:i=j
  ·subst e;exact id
  ·have hle:Le L xs[i] xs[j]:=List.pairwise_iff_getElem.mp hs i j hi' hj' (by omega)
   have hDi:=hdx _ (List.getElem_mem hi')
   have hDj:=hdx _ (List.getElem_mem hj')
   cases lf with
   | true=>
    rw[if_pos rfl,if_pos rfl]
    intro h1
    cases h2:L xs[i] ky with
    | true=>rfl
    | false=>rw[hC.tr ky _ _ hy hDi hDj h2 hle]at h1;cases h1
   | false=>
    rw[if_neg Bool.false_ne_true,if_neg Bool.false_ne_true]
    intro h1
    rw[Bool.not_eq_true']at h1 ⊢
    exact hC.tr _ _ ky hDi hDj hy hle h1
 ·intro k hk' hp
  refine q k hk' (fun u hu=>?_) (fun u hu=>?_)
  ·obtain⟨i,hi,rfl⟩:=List.getElem_of_mem hu
   rw[List.length_take]at hi
   have:=hp.1 i (by omega)
   dsimp only at this
   rw[dif_pos (by omega)]at this
   rw[List.getElem_take]
   cases lf with
   | true=>exact this
   | false=>simpa using this
  ·obtain⟨i,hi,rfl⟩:=List.getElem_of_mem hu
   rw[List.length_drop]at hi
   have:=hp.2 (k+i) (by omega) (by omega)
   dsimp only at this
   rw[dif_pos (by omega)]at this
   rw[List.getElem_drop]
   cases lf with
   | true=>exact this
   | false=>simpa using this
end
abbrev LoC:=Option (Array Keyed)×Array Keyed×Nat×Nat×Nat×Nat×Nat
noncomputable def dnf (p q o:Array Keyed) (i j:Nat):Array Keyed:=o++p.extract i p.size++q.extract j q.size
noncomputable def lpf (p q o:Array Keyed) (i j:Nat):Array Keyed:=o++q.extract j q.size++p.extract i p.size
noncomputable def loE (p q o:Array Keyed) (i j mg ca cb:Nat):StateT SortSt Sem (ForInStep LoC):=do
 let e ←elem' p i
 if (i+1+1 == p.size)=true then pure (ForInStep.done (some (lpf p q (o.push e) (i+1) j),o.push e,i+1,j,mg,ca,cb))
 else if (decide (ca<7)&&decide (cb<7))=true then pure (ForInStep.done (none,o.push e,i+1,j,mg,ca,cb))
 else pure (ForInStep.yield (none,o.push e,i+1,j,mg,ca,cb))
noncomputable def loD (p q o:Array Keyed) (i j mg ca cb:Nat):StateT SortSt Sem (ForInStep LoC):=do
 let e ←elem' q j
 if (j+1 == q.size)=true then pure (ForInStep.done (some (dnf p q (o.push e) i (j+1)),o.push e,i,j+1,mg,ca,cb))
 else do
  let some k ←gal true (←elem' p i) q (j+1) (q.size-(j+1)) 0 | pure (ForInStep.done (some (dnf p q (o.push e) i (j+1)),o.push e,i,j+1,mg,ca,cb))
  if k>0 then
   if (j+1+k == q.size)=true then pure (ForInStep.done (some (dnf p q (o.push e++q.extract (j+1) (j+1+k)) i (j+1+k)),o.push e++q.extract (j+1) (j+1+k),i,j+1+k,mg,ca,k))
   else loE p q (o.push e++q.extract (j+1) (j+1+k)) i (j+1+k) mg ca k
  else loE p q (o.push e) i (j+1) mg ca k
noncomputable def loF (p q o:Array Keyed) (i j mg ca cb:Nat):StateT SortSt Sem (ForInStep LoC):=do
 setG mg
 let some k ←gal false (←elem' q j) p i (p.size-i) 0 | pure (ForInStep.done (some (dnf p q o i j),o,i,j,mg,ca,cb))
 if k>0 then
  if (i+k+1 == p.size)=true then pure (ForInStep.done (some (lpf p q (o++p.extract i (i+k)) (i+k) j),o++p.extract i (i+k),i+k,j,mg,k,cb))
  else if (i+k == p.size)=true then pure (ForInStep.done (some (dnf p q (o++p.extract i (i+k)) (i+k) j),o++p.extract i (i+k),i+k,j,mg,k,cb))
  else loD p q (o++p.extract i (i+k)) (i+k) j mg k cb
 else loD p q o i j mg k cb
section
variable {M:Model}{A:Around}{E:Value→Shared→Prop}{s:Shared}{D:Keyed→Prop}{L:Keyed→Keyed→Bool}{kd:SortKind}{p q:Array Keyed}{T:List Keyed}{st:SortSt}
structure LoI (D:Keyed→Prop)(L:Keyed→Keyed→Bool)(p q:Array Keyed)(T:List Keyed)(o:Array Keyed)(i j:Nat):Prop where
 ms:MS D L T o.toList (p.toList.drop i) (q.toList.drop j)
 li:i+1<p.size
 lj:j<q.size
noncomputable def Fin1 (L:Keyed→Keyed→Bool) (T:List Keyed) (z:Array Keyed):Prop:=z.toList.Perm T∧z.toList.Pairwise (Le L)
theorem Zed {p:Array Keyed}{i:Nat}{e:Keyed}(h:p[i]?=some e):p.toList.drop i=e::p.toList.drop (i+1):=by
 obtain⟨hi,rfl⟩:=Array.getElem?_eq_some_iff.mp h
 rw[←Array.getElem_toList]
 exact List.drop_eq_getElem_cons (by simpa using hi)
theorem at? {p:Array Keyed}{i:Nat}(h:i<p.size):∃e,p[i]?=some e∧e∈p.toList:=⟨p[i],getElem?_pos p i h,by simp⟩
theorem Zii (p q o:Array Keyed)(i j:Nat):(dnf p q o i j).toList=o.toList++p.toList.drop i++q.toList.drop j:=by
 unfold dnf;rw[Array.toList_append,Array.toList_append,Array.toList_extract,Array.toList_extract,List.extract,List.extract,List.take_of_length_le (by simp),List.take_of_length_le (by simp)]
theorem Zh1 (p q o:Array Keyed)(i j:Nat):(lpf p q o i j).toList=o.toList++q.toList.drop j++p.toList.drop i:=by
 unfold lpf;rw[Array.toList_append,Array.toList_append,Array.toList_extract,Array.toList_extract,List.extract,List.extract,List.take_of_length_le (by simp),List.take_of_length_le (by simp)]
theorem Zec (p:Array Keyed)(i k:Nat):(p.extract i (i+k)).toList=(p.toList.drop i).take k:=by
 simp[Array.toList_extract,List.extract]
theorem Zdb (l:List Keyed)(i k:Nat):l.drop i=(l.drop i).take k++l.drop (i+k):=by
 rw[←List.drop_drop,List.take_append_drop]
structure LoH (D:Keyed→Prop)(L:Keyed→Keyed→Bool)(p q:Array Keyed):Prop where
 dp:∀u∈p.toList,D u
 dq:∀u∈q.toList,D u
 sp:p.toList.Pairwise (Le L)
 sq:q.toList.Pairwise (Le L)
 last:∀u∈q.toList,∀v∈p.toList.drop (p.size-1),L u v=true
theorem LoH.fin_lp {o:Array Keyed}{i j:Nat}(hH:LoH D L p q)(hC:Cmp D L)(h:MS D L T o.toList (p.toList.drop i) (q.toList.drop j))(e:i+1=p.size):Fin1 L T (lpf p q o i j):=by
 unfold Fin1;rw[Zh1]
 refine h.swap.all fun u hu v hv=>?_
 have hu:=List.mem_of_mem_drop hu
 have e':i=p.size-1:=by omega
 subst e'
 exact hC.asym _ _ (hH.dq u hu) (hH.dp v (List.mem_of_mem_drop hv)) (hH.last u hu v hv)
theorem Zfm {o:Array Keyed}{i j:Nat}(h:MS D L T o.toList (p.toList.drop i) (q.toList.drop j))(e:j=q.size):Fin1 L T (dnf p q o i j):=by
 unfold Fin1;rw[Zii]
 have e2:q.toList.drop j=[]:=List.drop_eq_nil_of_le (by simp;omega)
 rw[e2]at h ⊢
 simpa using h.fin
noncomputable def LoQ (D:Keyed→Prop) (L:Keyed→Keyed→Bool) (p q:Array Keyed) (T:List Keyed) (w:Nat) (c:LoC):Prop:=
 ∃r o i j mg ca cb,c=(r,o,i,j,mg,ca,cb)∧((∃z,r=some z∧Fin1 L T z)∨(r=none∧LoI D L p q T o i j∧w≤i+j))
noncomputable def LoY (D:Keyed→Prop) (L:Keyed→Keyed→Bool) (p q:Array Keyed) (T:List Keyed) (w:Nat) (c:LoC):Prop:=
 ∃o i j mg ca cb,c=(none,o,i,j,mg,ca,cb)∧LoI D L p q T o i j∧w≤i+j
noncomputable def LoP (D:Keyed→Prop) (L:Keyed→Keyed→Bool) (p q:Array Keyed) (T:List Keyed) (w:Nat) (st:SortSt) (r:ForInStep LoC) (st':SortSt):Prop:=
 (∃g,st'=Zar st g)∧match r with | .done c=>LoQ D L p q T w c | .yield c=>LoY D L p q T w c
theorem Zix {o:Array Keyed}{i j mg ca cb w g:Nat}(hH:LoH D L p q)(hC:Cmp D L)(hi:i+1<p.size)(hj:j<q.size)(hw:w≤i+1+j)(h:MS D L T o.toList (p.toList.drop i) (q.toList.drop j))
  (hle:∀u∈(p.toList.drop i).take 1,∀v∈q.toList.drop j,Le L u v):wpS M A E s (loE p q o i j mg ca cb) (LoP D L p q T w st) (Zar st g):=by
 obtain⟨e,he,hm⟩:=at? (p:=p) (i:=i) (by omega)
 have hd:=Zed he
 have h2:MS D L T (o.push e).toList (p.toList.drop (i+1)) (q.toList.drop j):=by
  rw[Array.toList_push]
  rw[hd]at h hle
  exact MS.movX (p:=[e]) h (fun u hu v hv=>hle u (by simpa using hu) v hv)
 unfold loE
 refine wpS_bind (ZaG he ?_)
 by_cases c1:i+1+1=p.size
 ·rw[if_pos (by simpa using c1)]
  exact wpS_pure ⟨⟨g,rfl⟩,_,_,_,_,_,_,_,rfl,.inl ⟨_,rfl,hH.fin_lp hC h2 c1⟩⟩
 ·rw[if_neg (by simpa using c1)]
  have hI:LoI D L p q T (o.push e) (i+1) j:=⟨h2,by omega,hj⟩
  split
  ·exact wpS_pure ⟨⟨g,rfl⟩,_,_,_,_,_,_,_,rfl,.inr ⟨rfl,hI,hw⟩⟩
  ·exact wpS_pure ⟨⟨g,rfl⟩,_,_,_,_,_,_,rfl,hI,hw⟩
theorem Ziy {o:Array Keyed}{i j mg ca cb w g:Nat}(hH:LoH D L p q)(hC:Cmp D L)(hP:PureC M A E s D L kd)(hk:kindOf st=kd)(hi:i+1<p.size)(hj:j<q.size)(hw:w≤i+1+j)(h:MS D L T o.toList (p.toList.drop i) (q.toList.drop j))
  (hle:∀u∈(q.toList.drop j).take 1,∀v∈p.toList.drop i,Le L u v):wpS M A E s (loD p q o i j mg ca cb) (LoP D L p q T w st) (Zar st g):=by
 obtain⟨e,he,hm⟩:=at? (p:=q) (i:=j) hj
 obtain⟨x,hx,hxm⟩:=at? (p:=p) (i:=i) (by omega)
 have hd:=Zed he
 have h2:MS D L T (o.push e).toList (p.toList.drop i) (q.toList.drop (j+1)):=by
  rw[Array.toList_push]
  rw[hd]at h hle
  exact MS.movY (p:=[e]) h (fun u hu v hv=>hle u (by simpa using hu) v hv)
 unfold loD
 refine wpS_bind (ZaG he ?_)
 by_cases c1:j+1=q.size
 ·rw[if_pos (by simpa using c1)]
  exact wpS_pure ⟨⟨g,rfl⟩,_,_,_,_,_,_,_,rfl,.inl ⟨_,rfl,Zfm h2 c1⟩⟩
 ·rw[if_neg (by simpa using c1)]
  refine wpS_bind (ZaG hx ?_)
  have et:(q.toList.drop (j+1)).take (q.size-(j+1))=q.toList.drop (j+1):=List.take_of_length_le (by simp)
  refine wpS_bind (Zc7 hC hP (by exact hk) (by omega) (by omega) (hH.dp x hxm) hH.dq (by rw[et];exact h2.sy) ?_)
  rw[et]
  intro k hkn ha hb
  replace ha:∀u∈(q.toList.drop (j+1)).take k,L u x=true:=ha
  replace hb:∀u∈(q.toList.drop (j+1)).drop k,Le L x u:=hb
  dsimp only
  have hpd:=Zed hx
  have hsx:=h2.sx
  rw[hpd,List.pairwise_cons]at hsx
  have xle:∀v∈p.toList.drop i,Le L x v:=by
   intro v hv
   rw[hpd]at hv
   rcases List.mem_cons.mp hv with rfl | hv
   ·cases hx:L v v with
    | false=>exact hx
    | true=>exact hC.asym v v (hH.dp v hxm) (hH.dp v hxm) hx
   ·exact hsx.1 v hv
  have h3:MS D L T (o.push e++q.extract (j+1) (j+1+k)).toList (p.toList.drop i) (q.toList.drop (j+1+k)):=by
   rw[Array.toList_append,Zec]
   rw[Zdb q.toList (j+1) k]at h2
   refine h2.movY fun u hu v hv=>?_
   have hDu:=hH.dq u (List.mem_of_mem_drop (List.mem_of_mem_take hu))
   exact hC.tr u x v hDu (hH.dp x hxm) (hH.dp v (List.mem_of_mem_drop hv)) (hC.asym u x hDu (hH.dp x hxm) (ha u hu)) (xle v hv)
  have hle2:∀u∈(p.toList.drop i).take 1,∀v∈q.toList.drop (j+1+k),Le L u v:=by
   intro u hu v hv
   rw[hpd]at hu
   have:u=x:=by simpa using hu
   subst this
   exact hb v (by rwa [List.drop_drop])
  by_cases hk0:k>0
  ·rw[if_pos hk0]
   by_cases c2:j+1+k=q.size
   ·rw[if_pos (by simpa using c2)]
    exact wpS_pure ⟨⟨g,rfl⟩,_,_,_,_,_,_,_,rfl,.inl ⟨_,rfl,Zfm h3 c2⟩⟩
   ·rw[if_neg (by simpa using c2)]
    exact Zix hH hC hi (by omega) (by omega) h3 hle2
  ·rw[if_neg hk0]
   have:k=0:=by omega
   subst this
   exact Zix hH hC hi (by omega) (by omega) h2 hle2
theorem ZkK {o:Array Keyed}{i j mg ca cb w g:Nat}(hH:LoH D L p q)(hC:Cmp D L)(hP:PureC M A E s D L kd)(hk:kindOf st=kd)(hw:w≤i+1+j)(hI:LoI D L p q T o i j):
  wpS M A E s (loF p q o i j mg ca cb) (LoP D L p q T w st) (Zar st g):=by
 obtain⟨h,hi,hj⟩:=hI
 obtain⟨x,hx,hxm⟩:=at? (p:=q) (i:=j) hj
 have hqd:=Zed hx
 have hsy:=h.sy
 rw[hqd,List.pairwise_cons]at hsy
 have xle:∀v∈q.toList.drop j,Le L x v:=by
  intro v hv
  rw[hqd]at hv
  rcases List.mem_cons.mp hv with rfl | hv
  ·cases hx:L v v with
   | false=>exact hx
   | true=>exact hC.asym v v (hH.dq v hxm) (hH.dq v hxm) hx
  ·exact hsy.1 v hv
 unfold loF
 refine wpS_bind (wpS_modify ?_)
 refine wpS_bind (ZaG hx ?_)
 have et:(p.toList.drop i).take (p.size-i)=p.toList.drop i:=List.take_of_length_le (by simp)
 refine wpS_bind (Zc7 hC hP (by exact hk) (by omega) (by omega) (hH.dq x hxm) hH.dp (by rw[et];exact h.sx) ?_)
 rw[et]
 intro k hkn ha hb
 replace ha:∀u∈(p.toList.drop i).take k,Le L u x:=ha
 replace hb:∀u∈(p.toList.drop i).drop k,L x u=true:=hb
 dsimp only
 have h3:MS D L T (o++p.extract i (i+k)).toList (p.toList.drop (i+k)) (q.toList.drop j):=by
  rw[Array.toList_append,Zec]
  rw[Zdb p.toList i k]at h
  refine h.movX fun u hu v hv=>?_
  exact hC.tr u x v (hH.dp u (List.mem_of_mem_drop (List.mem_of_mem_take hu))) (hH.dq x hxm) (hH.dq v (List.mem_of_mem_drop hv)) (ha u hu) (xle v hv)
 have hle2:∀u∈(q.toList.drop j).take 1,∀v∈p.toList.drop (i+k),Le L u v:=by
  intro u hu v hv
  rw[hqd]at hu
  have:u=x:=by simpa using hu
  subst this
  have hv':v∈(p.toList.drop i).drop k:=by rwa [List.drop_drop]
  exact hC.asym u v (hH.dq u hxm) (hH.dp v (List.mem_of_mem_drop hv)) (hb v hv')
 have hlast:i+k≠p.size:=by
  intro e
  obtain⟨y,hy,hym⟩:=at? (p:=p) (i:=p.size-1) (by omega)
  have hyd:=Zed hy
  have h5:=hH.last x hxm y (by rw[hyd];simp)
  have hy2:y∈(p.toList.drop i).take k:=by
   rw[List.take_of_length_le (by simp;omega)]
   have:y∈p.toList.drop (p.size-1):=by rw[hyd];simp
   rw[show p.size-1=i+(p.size-1-i) by omega,←List.drop_drop]at this
   exact List.mem_of_mem_drop this
  have h6:=ha y hy2
  rw[show L x y=false from h6]at h5
  cases h5
 by_cases hk0:k>0
 ·rw[if_pos hk0]
  by_cases c2:i+k+1=p.size
  ·rw[if_pos (by simpa using c2)]
   exact wpS_pure ⟨⟨_,rfl⟩,_,_,_,_,_,_,_,rfl,.inl ⟨_,rfl,hH.fin_lp hC h3 c2⟩⟩
  ·rw[if_neg (by simpa using c2),if_neg (by simpa using hlast)]
   exact Ziy hH hC hP hk (by omega) hj (by omega) h3 hle2
 ·rw[if_neg hk0]
  have:k=0:=by omega
  subst this
  exact Ziy hH hC hP hk hi hj hw h hle2
theorem ZkE {Q:Array Keyed→SortSt→Prop}(hH:LoH D L p q)(hC:Cmp D L)(hP:PureC M A E s D L kd)(hk:kindOf st=kd)(hp:0<p.size)(hq:0<q.size)
  (h0:∀u∈q.toList.take 1,∀v∈p.toList,Le L u v) (hQ:∀z g,Fin1 L (p.toList++q.toList) z→Q z (Zar st g)):wpS M A E s (mLo p q) Q st:=by
 rw[ZkF];unfold mLoB
 obtain⟨e,he,hm⟩:=at? (p:=q) (i:=0) hq
 have hd:q.toList=e::q.toList.drop 1:=by simpa using Zed he
 have h1:MS D L (p.toList++q.toList) (#[e]:Array Keyed).toList (p.toList.drop 0) (q.toList.drop 1):=by
  have:MS D L (p.toList++q.toList) [] p.toList ([e]++q.toList.drop 1):=⟨by rw[hd];simp,List.Pairwise.nil,by simp,by simp,hH.sp,by have:=hH.sq;rw[hd]at this;exact this⟩
  refine this.movY fun u hu v hv=>h0 u ?_ v hv
  rw[hd];simpa using hu
 refine wpS_bind (wpS_lift (wpAny_rule ⟨rfl,?_⟩))
 refine wpS_bind (ZaG he ?_)
 by_cases c1:1=q.size
 ·rw[if_pos (by simpa using c1)]
  exact wpS_pure (hQ _ _ (Zfm h1 c1))
 rw[if_neg (by simpa using c1)]
 by_cases c2:0+1=p.size
 ·rw[if_pos (by simpa using c2)]
  exact wpS_pure (hQ _ _ (hH.fin_lp hC h1 c2))
 rw[if_neg (by simpa using c2)]
 refine wpS_bind (wpS_get ?_)
 have hI:LoI D L p q (p.toList++q.toList) #[e] 0 1:=⟨h1,by omega,by omega⟩
 generalize p.toList++q.toList=T at hI hQ
 refine wpS_bind (wpS_mono (wpS_forRange (I:=fun x c st'=>∃g,st'=Zar st g∧∃o i j mg,c=(none,o,i,j,mg)∧LoI D L p q T o i j∧x≤i+j)
  (Q:=fun c st'=>∃g,st'=Zar st g∧∃z o i j mg,c=(some z,o,i,j,mg)∧Fin1 L T z) ?step ?fin ⟨gallopOf st,rfl,_,_,_,_,rfl,hI,by omega⟩) ?post)
 case post=>
  rintro c st' ⟨g,rfl,z,o,i,j,mg,rfl,hz⟩
  exact wpS_pure (hQ z g hz)
 case fin=>
  rintro c st' ⟨g,rfl,o,i,j,mg,rfl,hI,hx⟩
  have:=hI.li;have:=hI.lj
  omega
 case step=>
  rintro x c st' _ hx ⟨g,rfl,o,i,j,mg,rfl,hI,hxi⟩
  dsimp only
  refine wpS_bind (wpS_mono (wpS_forRange (I:=fun y c st'=>st'=Zar st g∧∃o i j ca cb,c=(none,o,i,j,ca,cb)∧LoI D L p q T o i j∧y+x≤i+j)
   (Q:=fun c st'=>st'=Zar st g∧∃r o i j ca cb,c=(r,o,i,j,ca,cb)∧((∃z,r=some z∧Fin1 L T z)∨(r=none∧LoI D L p q T o i j∧x+1≤i+j))) ?s1 ?f1 ⟨rfl,_,_,_,_,_,rfl,hI,by omega⟩) ?p1)
  case f1=>
   rintro c st' ⟨rfl,o,i,j,ca,cb,rfl,hI,hx⟩
   have:=hI.li;have:=hI.lj
   omega
  case s1=>
   rintro y c st' _ hy ⟨rfl,o,i,j,ca,cb,rfl,hI,hxi⟩
   obtain⟨h,hi,hj⟩:=hI
   obtain⟨u,hu,hum⟩:=at? (p:=q) (i:=j) hj
   obtain⟨v,hv,hvm⟩:=at? (p:=p) (i:=i) (by omega)
   have hDu:=hH.dq u hum
   have hDv:=hH.dp v hvm
   have hqd:=Zed hu
   have hpd:=Zed hv
   have hsx:=h.sx
   have hsy:=h.sy
   rw[hpd,List.pairwise_cons]at hsx
   rw[hqd,List.pairwise_cons]at hsy
   dsimp only
   refine wpS_bind (ZaG hu (wpS_bind (ZaG hv (wpS_bind (hP _ _ _ _ hk hDu hDv ?_)))))
   dsimp only
   cases hL:L u v with
   | true=>
    rw[if_pos rfl]
    refine wpS_bind (ZaG hu ?_)
    have h2:MS D L T (o.push u).toList (p.toList.drop i) (q.toList.drop (j+1)):=by
     rw[Array.toList_push]
     rw[hqd]at h
     refine MS.movY (p:=[u]) h fun a ha b hb=>?_
     have ha:a=u:=by simpa using ha
     subst ha
     have hav:Le L a v:=hC.asym _ _ hDu hDv hL
     rw[hpd]at hb
     rcases List.mem_cons.mp hb with rfl | hb
     ·exact hav
     ·exact hC.tr a v b hDu hDv (hH.dp b (List.mem_of_mem_drop hb)) hav (hsx.1 b hb)
    by_cases c3:j+1=q.size
    ·rw[if_pos (by simpa using c3)]
     exact wpS_pure ⟨rfl,_,_,_,_,_,_,rfl,.inl ⟨_,rfl,Zfm h2 c3⟩⟩
    ·rw[if_neg (by simpa using c3)]
     have hI:LoI D L p q T (o.push u) i (j+1):=⟨h2,hi,by omega⟩
     split
     ·exact wpS_pure ⟨rfl,_,_,_,_,_,_,rfl,.inr ⟨rfl,hI,by omega⟩⟩
     ·exact wpS_pure ⟨rfl,_,_,_,_,_,rfl,hI,by omega⟩
   | false=>
    rw[if_neg Bool.false_ne_true]
    refine wpS_bind (ZaG hv ?_)
    have h2:MS D L T (o.push v).toList (p.toList.drop (i+1)) (q.toList.drop j):=by
     rw[Array.toList_push]
     rw[hpd]at h
     refine MS.movX (p:=[v]) h fun a ha b hb=>?_
     have ha:a=v:=by simpa using ha
     subst ha
     rw[hqd]at hb
     rcases List.mem_cons.mp hb with rfl | hb
     ·exact hL
     ·exact hC.tr a u b hDv hDu (hH.dq b (List.mem_of_mem_drop hb)) hL (hsy.1 b hb)
    by_cases c3:i+1+1=p.size
    ·rw[if_pos (by simpa using c3)]
     exact wpS_pure ⟨rfl,_,_,_,_,_,_,rfl,.inl ⟨_,rfl,hH.fin_lp hC h2 c3⟩⟩
    ·rw[if_neg (by simpa using c3)]
     have hI:LoI D L p q T (o.push v) (i+1) j:=⟨h2,by omega,hj⟩
     split
     ·exact wpS_pure ⟨rfl,_,_,_,_,_,_,rfl,.inr ⟨rfl,hI,by omega⟩⟩
     ·exact wpS_pure ⟨rfl,_,_,_,_,_,rfl,hI,by omega⟩
  case p1=>
   rintro c st' ⟨rfl,r,o,i,j,ca,cb,rfl,⟨z,rfl,hz⟩|⟨rfl,hI,hw⟩⟩
   ·exact wpS_pure ⟨g,rfl,z,o,i,j,mg,rfl,hz⟩
   ·dsimp only
    refine wpS_bind (wpS_lift (wpAny_rule ⟨rfl,?_⟩))
    refine wpS_bind (wpS_mono (wpS_forRange (I:=fun y c st'=>(∃g,st'=Zar st g)∧LoY D L p q T (y+(x+1)) c)
     (Q:=fun c st'=>(∃g,st'=Zar st g)∧LoQ D L p q T (x+1) c) ?s2 ?f2 ⟨⟨g,rfl⟩,_,_,_,_,_,_,rfl,hI,by omega⟩) ?p2)
    case f2=>
     rintro c st' ⟨_,o,i,j,mg,ca,cb,rfl,hI,hx⟩
     have:=hI.li;have:=hI.lj
     omega
    case p2=>
     rintro c st' ⟨⟨g,rfl⟩,r,o,i,j,mg,ca,cb,rfl,⟨z,rfl,hz⟩|⟨rfl,hI,hw⟩⟩
     ·exact wpS_pure ⟨g,rfl,z,o,i,j,mg,rfl,hz⟩
     ·exact wpS_bind (wpS_modify (wpS_pure ⟨_,rfl,_,_,_,_,rfl,hI,hw⟩))
    case s2=>
     rintro y c st' _ hy ⟨⟨g,rfl⟩,o,i,j,mg,ca,cb,rfl,hI,hw⟩
     have key:∀mg,wpS M A E s (loF p q o i j mg ca cb) (fun r st'=>match r with | .done c'=>(∃g,st'=Zar st g)∧LoQ D L p q T (x+1) c' | .yield c'=>(∃g,st'=Zar st g)∧LoY D L p q T (y+1+(x+1)) c') (Zar st g):=by
      intro mg
      refine wpS_mono (ZkK (w:=y+1+(x+1)) hH hC hP hk (by omega) hI) ?_
      rintro r st' ⟨hg,hr⟩
      cases r with
      | done c=>
       obtain⟨r,o,i,j,mg,ca,cb,rfl,h | ⟨rfl,hI,hw⟩⟩:=hr
       ·exact⟨hg,r,o,i,j,mg,ca,cb,rfl,.inl h⟩
       ·exact⟨hg,none,o,i,j,mg,ca,cb,rfl,.inr ⟨rfl,hI,by omega⟩⟩
      | yield c=>exact⟨hg,hr⟩
     have key2:wpS M A E s (if mg>1 then loF p q o i j (mg-1) ca cb else loF p q o i j mg ca cb) (fun r st'=>match r with | .done c'=>(∃g,st'=Zar st g)∧LoQ D L p q T (x+1) c' | .yield c'=>(∃g,st'=Zar st g)∧LoY D L p q T (y+1+(x+1)) c') (Zar st g):=by
      split
      ·exact key _
      ·exact key _
     refine wpS_mono (Q:=fun r st'=>match r with | .done c'=>(∃g,st'=Zar st g)∧LoQ D L p q T (x+1) c' | .yield c'=>(∃g,st'=Zar st g)∧LoY D L p q T (y+1+(x+1)) c') ?_ (fun r st' hr=>by cases r<;>exact hr)
     by_cases hmg:mg>1
     ·rw[if_pos (show (none,o,i,j,mg,ca,cb).snd.snd.snd.snd.fst>1 from hmg)]
      refine Eq.mp ?_ (key (mg-1))
      refine congrArg (fun m=>wpS M A E s m _ _) ?_
      unfold loF loD loE lpf dnf
      dsimp only
     ·rw[if_neg (show ¬(none,o,i,j,mg,ca,cb).snd.snd.snd.snd.fst>1 from hmg)]
      exact key mg
end
noncomputable def mHi:Array Keyed→Array Keyed→StateT SortSt Sem (Array Keyed):=sortPriv% PySem.Builtin.mergeHi
noncomputable def mHiB (p q:Array Keyed):StateT SortSt Sem (Array Keyed):=do
 rule "list.sort.merge-hi"
 let tt:=p.size+q.size
 let dn (o:Array Keyed) (i j:Nat):=p.extract 0 i++q.extract 0 j++o.reverse
 let fb (o:Array Keyed) (i j:Nat):=q.extract 0 j++p.extract 0 i++o.reverse
 let mut i:=p.size-1
 let mut j:=q.size
 let mut o:Array Keyed:=#[←elem' p i]
 if i == 0 then return dn o i j
 if j == 1 then return fb o i j
 let mut mg:=gallopOf (←get)
 for _ in [0:tt] do
  let mut ca:=0
  let mut cb:=0
  for _ in [0:tt] do
   let some wn ←lt' (←elem' q (j-1)) (←elem' p (i-1)) | return dn o i j
   if wn then
    i:=i-1;o:=o.push (←elem' p i);ca:=ca+1;cb:=0
    if i == 0 then return dn o i j
    if ca≥mg then break
   else
    j:=j-1;o:=o.push (←elem' q j);cb:=cb+1;ca:=0
    if j == 1 then return fb o i j
    if cb≥mg then break
  rule "list.sort.gallop"
  mg:=mg+1
  for _ in [0:tt] do
   if mg>1 then mg:=mg-1
   setG mg
   let some a ←gal false (←elem' q (j-1)) p 0 i (i-1) | return dn o i j
   let k:=i-a
   ca:=k
   if k>0 then
    o:=o++(p.extract a i).reverse;i:=a
    if i == 0 then return dn o i j
   j:=j-1;o:=o.push (←elem' q j)
   if j == 1 then return fb o i j
   let some a ←gal true (←elem' p (i-1)) q 0 j (j-1) | return dn o i j
   let k:=j-a
   cb:=k
   if k>0 then
    o:=o++(q.extract a j).reverse;j:=a
    if j == 1 then return fb o i j
    if j == 0 then return dn o i j
   i:=i-1;o:=o.push (←elem' p i)
   if i == 0 then return dn o i j
   if ca<7&&cb<7 then break
  mg:=mg+1
  setG mg
 unsupported "internal:list.sort.merge-bound"
theorem ZkH (p q:Array Keyed):mHi p q=mHiB p q:=rfl
abbrev HiC:=Option (Array Keyed)×Nat×Nat×Array Keyed×Nat×Nat×Nat
noncomputable def dnh (p q o:Array Keyed) (i j:Nat):Array Keyed:=p.extract 0 i++q.extract 0 j++o.reverse
noncomputable def fbh (p q o:Array Keyed) (i j:Nat):Array Keyed:=q.extract 0 j++p.extract 0 i++o.reverse
noncomputable def hiE (p q o:Array Keyed) (i j mg ca cb:Nat):StateT SortSt Sem (ForInStep HiC):=do
 let e ←elem' p (i-1)
 if (i-1 == 0)=true then pure (ForInStep.done (some (dnh p q (o.push e) (i-1) j),i-1,j,o.push e,mg,ca,cb))
 else if (decide (ca<7)&&decide (cb<7))=true then pure (ForInStep.done (none,i-1,j,o.push e,mg,ca,cb))
 else pure (ForInStep.yield (none,i-1,j,o.push e,mg,ca,cb))
noncomputable def hiD (p q o:Array Keyed) (i j mg ca cb:Nat):StateT SortSt Sem (ForInStep HiC):=do
 let e ←elem' q (j-1)
 if (j-1 == 1)=true then pure (ForInStep.done (some (fbh p q (o.push e) i (j-1)),i,j-1,o.push e,mg,ca,cb))
 else do
  let some a ←gal true (←elem' p (i-1)) q 0 (j-1) (j-1-1) | pure (ForInStep.done (some (dnh p q (o.push e) i (j-1)),i,j-1,o.push e,mg,ca,cb))
  if j-1-a>0 then
   if (a == 1)=true then pure (ForInStep.done (some (fbh p q (o.push e++(q.extract a (j-1)).reverse) i a),i,a,o.push e++(q.extract a (j-1)).reverse,mg,ca,j-1-a))
   else if (a == 0)=true then pure (ForInStep.done (some (dnh p q (o.push e++(q.extract a (j-1)).reverse) i a),i,a,o.push e++(q.extract a (j-1)).reverse,mg,ca,j-1-a))
   else hiE p q (o.push e++(q.extract a (j-1)).reverse) i a mg ca (j-1-a)
  else hiE p q (o.push e) i (j-1) mg ca (j-1-a)
noncomputable def hiF (p q o:Array Keyed) (i j mg ca cb:Nat):StateT SortSt Sem (ForInStep HiC):=do
 setG mg
 let some a ←gal false (←elem' q (j-1)) p 0 i (i-1) | pure (ForInStep.done (some (dnh p q o i j),i,j,o,mg,ca,cb))
 if i-a>0 then
  if (a == 0)=true then pure (ForInStep.done (some (dnh p q (o++(p.extract a i).reverse) a j),a,j,o++(p.extract a i).reverse,mg,i-a,cb))
  else hiD p q (o++(p.extract a i).reverse) a j mg (i-a) cb
 else hiD p q o i j mg (i-a) cb
section
variable {M:Model}{A:Around}{E:Value→Shared→Prop}{s:Shared}{D:Keyed→Prop}{L:Keyed→Keyed→Bool}{kd:SortKind}{p q:Array Keyed}{T:List Keyed}{st:SortSt}
abbrev Fl (L:Keyed→Keyed→Bool):Keyed→Keyed→Bool:=fun x y=>L y x
theorem Zis {l:List Keyed}:l.reverse.Pairwise (Le (Fl L))↔l.Pairwise (Le L):=by rw[List.pairwise_reverse]
abbrev MR (D:Keyed→Prop)(L:Keyed→Keyed→Bool)(T:List Keyed)(p q o:Array Keyed)(i j:Nat):Prop:=MS D (Fl L) T o.toList (p.toList.take i).reverse (q.toList.take j).reverse
structure HiI (D:Keyed→Prop)(L:Keyed→Keyed→Bool)(p q:Array Keyed)(T:List Keyed)(o:Array Keyed)(i j:Nat):Prop where
 ms:MR D L T p q o i j
 li:0<i
 lj:1<j
 hi:i≤p.size
 hj:j≤q.size
structure HiH (D:Keyed→Prop)(L:Keyed→Keyed→Bool)(p q:Array Keyed):Prop where
 dp:∀u∈p.toList,D u
 dq:∀u∈q.toList,D u
 sp:p.toList.Pairwise (Le L)
 sq:q.toList.Pairwise (Le L)
 first:∀u∈q.toList.take 1,∀v∈p.toList,L u v=true
theorem ZfD {p:Array Keyed}{i:Nat}{e:Keyed}(hi:0<i)(h:p[i-1]?=some e):p.toList.take i=p.toList.take (i-1)++[e]:=by
 obtain⟨i,rfl⟩:∃k,i=k+1:=⟨i-1,by omega⟩
 rw[Nat.add_sub_cancel]at h ⊢
 rw[List.take_succ,Array.getElem?_toList,h];rfl
theorem Zhu {p:Array Keyed}{i:Nat}{e:Keyed}(hi:0<i)(h:p[i-1]?=some e):(p.toList.take i).reverse=[e]++(p.toList.take (i-1)).reverse:=by
 rw[ZfD hi h,List.reverse_append];rfl
theorem ZcX (l:List Keyed){a i:Nat}(h:a≤i):(l.take i).reverse=((l.take i).drop a).reverse++(l.take a).reverse:=by
 rw[←List.reverse_append]
 congr 1
 have:l.take a=(l.take i).take a:=by rw[List.take_take,Nat.min_eq_left h]
 rw[this,List.take_append_drop]
theorem Zk5 (p:Array Keyed)(a i:Nat):(p.extract a i).reverse.toList=((p.toList.take i).drop a).reverse:=by
 rw[Array.toList_reverse,Array.toList_extract,List.extract,List.drop_take]
theorem Zih (p q o:Array Keyed)(i j:Nat):(dnh p q o i j).toList=p.toList.take i++q.toList.take j++o.toList.reverse:=by
 unfold dnh;rw[Array.toList_append,Array.toList_append,Array.toList_extract,Array.toList_extract,Array.toList_reverse,List.extract,List.extract];simp
theorem Zid (p q o:Array Keyed)(i j:Nat):(fbh p q o i j).toList=q.toList.take j++p.toList.take i++o.toList.reverse:=by
 unfold fbh;rw[Array.toList_append,Array.toList_append,Array.toList_extract,Array.toList_extract,Array.toList_reverse,List.extract,List.extract];simp
theorem Zg7 {l m:List Keyed}(h:l.Perm T∧l.Pairwise (Le (Fl L)))(e:m=l.reverse):m.Perm T∧m.Pairwise (Le L):=by
 subst e
 refine⟨(List.reverse_perm l).trans h.1,?_⟩
 rw[List.pairwise_reverse];exact h.2
theorem Zfn {o:Array Keyed}{i j:Nat}(h:MR D L T p q o i j)(e:i=0):Fin1 L T (dnh p q o i j):=by
 unfold Fin1;rw[Zih]
 subst e
 have h':=h.swap
 exact Zg7 (l:=o.toList++(q.toList.take j).reverse) (MS.fin (D:=D) (by simpa using h')) (by simp)
theorem HiH.fin_fb {o:Array Keyed}{i j:Nat}(hH:HiH D L p q)(hC:Cmp D L)(h:MR D L T p q o i j)(e:j=1):Fin1 L T (fbh p q o i j):=by
 unfold Fin1;rw[Zid]
 subst e
 refine Zg7 (h.all fun u hu v hv=>?_) (by simp)
 have hu:u∈p.toList:=List.mem_of_mem_take (List.mem_reverse.mp hu)
 have hv:=List.mem_reverse.mp hv
 exact hC.asym v u (hH.dq v (List.mem_of_mem_take hv)) (hH.dp u hu) (hH.first v hv u hu)
noncomputable def HiQ (D:Keyed→Prop) (L:Keyed→Keyed→Bool) (p q:Array Keyed) (T:List Keyed) (w:Nat) (c:HiC):Prop:=
 ∃r o i j mg ca cb,c=(r,i,j,o,mg,ca,cb)∧((∃z,r=some z∧Fin1 L T z)∨(r=none∧HiI D L p q T o i j∧i+j≤w))
noncomputable def HiY (D:Keyed→Prop) (L:Keyed→Keyed→Bool) (p q:Array Keyed) (T:List Keyed) (w:Nat) (c:HiC):Prop:=
 ∃o i j mg ca cb,c=(none,i,j,o,mg,ca,cb)∧HiI D L p q T o i j∧i+j≤w
noncomputable def HiP (D:Keyed→Prop) (L:Keyed→Keyed→Bool) (p q:Array Keyed) (T:List Keyed) (w:Nat) (st:SortSt) (r:ForInStep HiC) (st':SortSt):Prop:=
 (∃g,st'=Zar st g)∧match r with | .done c=>HiQ D L p q T w c | .yield c=>HiY D L p q T w c
theorem ZiB {o:Array Keyed}{i j mg ca cb w g:Nat}(hH:HiH D L p q)(hi:0<i)(hip:i≤p.size)(hj:1<j)(hjq:j≤q.size)(hw:i-1+j≤w)(h:MR D L T p q o i j)
  (hle:∀u∈(p.toList.take i).drop (i-1),∀v∈q.toList.take j,Le L v u):wpS M A E s (hiE p q o i j mg ca cb) (HiP D L p q T w st) (Zar st g):=by
 obtain⟨e,he,hm⟩:=at? (p:=p) (i:=i-1) (by omega)
 have hd:=Zhu hi he
 have h2:MR D L T p q (o.push e) (i-1) j:=by
  unfold MR at h ⊢
  rw[Array.toList_push]
  rw[hd]at h
  refine MS.movX h fun u hu v hv=>?_
  have hu:u=e:=by simpa using hu
  subst hu
  refine hle u ?_ v (List.mem_reverse.mp hv)
  rw[ZfD hi he,List.drop_append_of_le_length (by simp;omega)]
  simp
 unfold hiE
 refine wpS_bind (ZaG he ?_)
 by_cases c1:i-1=0
 ·rw[if_pos (by simpa using c1)]
  exact wpS_pure ⟨⟨g,rfl⟩,_,_,_,_,_,_,_,rfl,.inl ⟨_,rfl,Zfn h2 c1⟩⟩
 ·rw[if_neg (by simpa using c1)]
  have hI:HiI D L p q T (o.push e) (i-1) j:=⟨h2,by omega,hj,by omega,hjq⟩
  split
  ·exact wpS_pure ⟨⟨g,rfl⟩,_,_,_,_,_,_,_,rfl,.inr ⟨rfl,hI,hw⟩⟩
  ·exact wpS_pure ⟨⟨g,rfl⟩,_,_,_,_,_,_,rfl,hI,hw⟩
theorem le_refl' (hC:Cmp D L){v:Keyed}(h:D v):Le L v v:=by
 cases hx:L v v with
 | false=>exact hx
 | true=>exact hC.asym v v h h hx
theorem Zdt (hC:Cmp D L)(hd:∀u∈p.toList,D u)(hs:p.toList.Pairwise (Le L)){i:Nat}{x:Keyed}(hi:0<i)(hx:p[i-1]?=some x)(hm:x∈p.toList):∀v∈p.toList.take i,Le L v x:=by
 intro v hv
 have h2:=hs.sublist (List.take_sublist i p.toList)
 rw[ZfD hi hx]at h2 hv
 rcases List.mem_append.mp hv with hv | hv
 ·exact(List.pairwise_append.mp h2).2.2 v hv x (by simp)
 ·have:v=x:=by simpa using hv
  subst this;exact le_refl' hC (hd v hm)
theorem ZcJ {i:Nat}{x u:Keyed}(hi:0<i)(hip:i≤p.size)(hx:p[i-1]?=some x):u∈(p.toList.take i).drop (i-1)↔u=x:=by
 rw[ZfD hi hx,List.drop_append_of_le_length (by simp;omega),List.drop_eq_nil_of_le (by simp;omega)]
 simp
theorem ZiC {o:Array Keyed}{i j mg ca cb w g:Nat}(hH:HiH D L p q)(hC:Cmp D L)(hP:PureC M A E s D L kd)(hk:kindOf st=kd)(hi:0<i)(hip:i≤p.size)(hj:1<j)(hjq:j≤q.size)(hw:i-1+j≤w)
  (h:MR D L T p q o i j) (hle:∀v∈(q.toList.take j).drop (j-1),∀u∈p.toList.take i,Le L u v):wpS M A E s (hiD p q o i j mg ca cb) (HiP D L p q T w st) (Zar st g):=by
 obtain⟨e,he,hm⟩:=at? (p:=q) (i:=j-1) (by omega)
 obtain⟨x,hx,hxm⟩:=at? (p:=p) (i:=i-1) (by omega)
 have h2:MR D L T p q (o.push e) i (j-1):=by
  unfold MR at h ⊢
  rw[Array.toList_push]
  rw[Zhu (by omega) he]at h
  refine MS.movY h fun u hu v hv=>?_
  have hu:u=e:=by simpa using hu
  exact hle u ((ZcJ (by omega) hjq he).mpr hu) v (List.mem_reverse.mp hv)
 unfold hiD
 refine wpS_bind (ZaG he ?_)
 by_cases c1:j-1=1
 ·rw[if_pos (by simpa using c1)]
  exact wpS_pure ⟨⟨g,rfl⟩,_,_,_,_,_,_,_,rfl,.inl ⟨_,rfl,hH.fin_fb hC h2 c1⟩⟩
 ·rw[if_neg (by simpa using c1)]
  refine wpS_bind (ZaG hx ?_)
  refine wpS_bind (Zc7 hC hP (by exact hk) (by omega) (by omega) (hH.dp x hxm) hH.dq (by rw[List.drop_zero];exact hH.sq.sublist (List.take_sublist _ _)) ?_)
  rw[List.drop_zero]
  intro a hkn ha hb
  replace ha:∀u∈(q.toList.take (j-1)).take a,L u x=true:=ha
  replace hb:∀u∈(q.toList.take (j-1)).drop a,Le L x u:=hb
  rw[List.take_take,Nat.min_eq_left hkn]at ha
  dsimp only
  have xge:=Zdt hC hH.dp hH.sp hi hx hxm
  have h3:MR D L T p q (o.push e++(q.extract a (j-1)).reverse) i a:=by
   unfold MR at h2 ⊢
   rw[Array.toList_append,Zk5]
   rw[ZcX q.toList hkn]at h2
   refine h2.movY fun u hu v hv=>?_
   have hu:=List.mem_reverse.mp hu
   have hv:=List.mem_reverse.mp hv
   exact hC.tr v x u (hH.dp v (List.mem_of_mem_take hv)) (hH.dp x hxm) (hH.dq u (List.mem_of_mem_take (List.mem_of_mem_drop hu))) (xge v hv) (hb u hu)
  have hle2:∀u∈(p.toList.take i).drop (i-1),∀v∈q.toList.take a,Le L v u:=by
   intro u hu v hv
   have:=(ZcJ hi hip hx).mp hu
   subst this
   exact hC.asym v u (hH.dq v (List.mem_of_mem_take hv)) (hH.dp u hxm) (ha v hv)
  have ha0:a≠0:=by
   rintro rfl
   obtain⟨y,hy,hym⟩:=at? (p:=q) (i:=0) (by omega)
   have hyq:q.toList.take 1=[y]:=by have:=ZfD (p:=q) (i:=1) (by omega) hy;simpa using this
   have h5:=hH.first y (by rw[hyq];simp) x hxm
   have h6:y∈q.toList.take (j-1):=by
    have:q.toList.take 1=(q.toList.take (j-1)).take 1:=by rw[List.take_take,Nat.min_eq_left (by omega)]
    rw[this]at hyq
    exact List.mem_of_mem_take (i:=1) (by rw[hyq];simp)
   rw[show L y x=false from hb y h6]at h5
   cases h5
  by_cases hk0:j-1-a>0
  ·rw[if_pos hk0]
   by_cases c2:a=1
   ·rw[if_pos (by simpa using c2)]
    exact wpS_pure ⟨⟨g,rfl⟩,_,_,_,_,_,_,_,rfl,.inl ⟨_,rfl,hH.fin_fb hC h3 c2⟩⟩
   ·rw[if_neg (by simpa using c2),if_neg (by simpa using ha0)]
    exact ZiB hH hi hip (by omega) (by omega) (by omega) h3 hle2
  ·rw[if_neg hk0]
   have:a=j-1:=by omega
   subst this
   exact ZiB hH hi hip (by omega) (by omega) (by omega) h2 hle2
theorem Zk1 {o:Array Keyed}{i j mg ca cb w g:Nat}(hH:HiH D L p q)(hC:Cmp D L)(hP:PureC M A E s D L kd)(hk:kindOf st=kd)(hw:i-1+j≤w)(hI:HiI D L p q T o i j):
  wpS M A E s (hiF p q o i j mg ca cb) (HiP D L p q T w st) (Zar st g):=by
 obtain⟨h,hi,hj,hip,hjq⟩:=hI
 obtain⟨x,hx,hxm⟩:=at? (p:=q) (i:=j-1) (by omega)
 unfold hiF
 refine wpS_bind (wpS_modify ?_)
 refine wpS_bind (ZaG hx ?_)
 refine wpS_bind (Zc7 hC hP (by exact hk) (by omega) (by omega) (hH.dq x hxm) hH.dp (by rw[List.drop_zero];exact hH.sp.sublist (List.take_sublist _ _)) ?_)
 rw[List.drop_zero]
 intro a hkn ha hb
 replace ha:∀u∈(p.toList.take i).take a,Le L u x:=ha
 replace hb:∀u∈(p.toList.take i).drop a,L x u=true:=hb
 rw[List.take_take,Nat.min_eq_left hkn]at ha
 dsimp only
 have xge:=Zdt hC hH.dq hH.sq (by omega) hx hxm
 have h3:MR D L T p q (o++(p.extract a i).reverse) a j:=by
  unfold MR at h ⊢
  rw[Array.toList_append,Zk5]
  rw[ZcX p.toList hkn]at h
  refine h.movX fun u hu v hv=>?_
  have hu:=List.mem_reverse.mp hu
  have hv:=List.mem_reverse.mp hv
  have hDu:=hH.dp u (List.mem_of_mem_take (List.mem_of_mem_drop hu))
  exact hC.tr v x u (hH.dq v (List.mem_of_mem_take hv)) (hH.dq x hxm) hDu (xge v hv) (hC.asym x u (hH.dq x hxm) hDu (hb u hu))
 have hle2:∀v∈(q.toList.take j).drop (j-1),∀u∈p.toList.take a,Le L u v:=by
  intro v hv u hu
  have:=(ZcJ (by omega) hjq hx).mp hv
  subst this
  exact ha u hu
 by_cases hk0:i-a>0
 ·rw[if_pos hk0]
  by_cases c2:a=0
  ·rw[if_pos (by simpa using c2)]
   exact wpS_pure ⟨⟨_,rfl⟩,_,_,_,_,_,_,_,rfl,.inl ⟨_,rfl,Zfn h3 c2⟩⟩
  ·rw[if_neg (by simpa using c2)]
   exact ZiC hH hC hP hk (by omega) (by omega) hj hjq (by omega) h3 hle2
 ·rw[if_neg hk0]
  have:a=i:=by omega
  subst this
  exact ZiC hH hC hP hk hi hip hj hjq hw h hle2
theorem ZkG {Q:Array Keyed→SortSt→Prop}(hH:HiH D L p q)(hC:Cmp D L)(hP:PureC M A E s D L kd)(hk:kindOf st=kd)(hp:0<p.size)(hq:0<q.size)
  (h0:∀u∈p.toList.drop (p.size-1),∀v∈q.toList,Le L v u) (hQ:∀z g,Fin1 L (p.toList++q.toList) z→Q z (Zar st g)):wpS M A E s (mHi p q) Q st:=by
 rw[ZkH];unfold mHiB
 obtain⟨e,he,hm⟩:=at? (p:=p) (i:=p.size-1) (by omega)
 have hd:p.toList=p.toList.take (p.size-1)++[e]:=by
  have:=ZfD hp he
  rwa [List.take_of_length_le (by simp)]at this
 have h1:MR D L (p.toList++q.toList) p q #[e] (p.size-1) q.size:=by
  unfold MR
  have e2:(q.toList.take q.size)=q.toList:=List.take_of_length_le (by simp)
  rw[e2]
  have:MS D (Fl L) (p.toList++q.toList) [] ([e]++(p.toList.take (p.size-1)).reverse) q.toList.reverse:=by
   have e3:[e]++(p.toList.take (p.size-1)).reverse=p.toList.reverse:=by
    conv=>rhs;rw[hd]
    simp
   rw[e3]
   exact⟨by simpa using (List.reverse_perm _).append (List.reverse_perm _),List.Pairwise.nil,by simp,by simp,Zis.mpr hH.sp,Zis.mpr hH.sq⟩
  refine this.movX fun u hu v hv=>h0 u ?_ v (List.mem_reverse.mp hv)
  have hu:u=e:=by simpa using hu
  subst hu
  rw[hd,List.drop_append_of_le_length (by simp)]
  simp
 refine wpS_bind (wpS_lift (wpAny_rule ⟨rfl,?_⟩))
 refine wpS_bind (ZaG he ?_)
 by_cases c1:p.size-1=0
 ·rw[if_pos (by simpa using c1)]
  exact wpS_pure (hQ _ _ (Zfn h1 c1))
 rw[if_neg (by simpa using c1)]
 by_cases c2:q.size=1
 ·rw[if_pos (by simpa using c2)]
  exact wpS_pure (hQ _ _ (hH.fin_fb hC h1 c2))
 rw[if_neg (by simpa using c2)]
 refine wpS_bind (wpS_get ?_)
 have hI:HiI D L p q (p.toList++q.toList) #[e] (p.size-1) q.size:=⟨h1,by omega,by omega,by omega,by omega⟩
 generalize p.toList++q.toList=T at hI hQ
 refine wpS_bind (wpS_mono (wpS_forRange (a:=0) (b:=p.size+q.size) (I:=fun x c st'=>∃g,st'=Zar st g∧∃o i j mg,c=(none,i,j,o,mg)∧HiI D L p q T o i j∧x+(i+j)≤p.size+q.size)
  (Q:=fun c st'=>∃g,st'=Zar st g∧∃z o i j mg,c=(some z,i,j,o,mg)∧Fin1 L T z) ?step ?fin ⟨gallopOf st,rfl,#[e],p.size-1,q.size,gallopOf st,rfl,hI,by omega⟩) ?post)
 case post=>
  rintro c st' ⟨g,rfl,z,o,i,j,mg,rfl,hz⟩
  exact wpS_pure (hQ z g hz)
 case fin=>
  rintro c st' ⟨g,rfl,o,i,j,mg,rfl,hI,hx⟩
  have:=hI.li;have:=hI.lj
  omega
 case step=>
  rintro x c st' _ hx ⟨g,rfl,o,i,j,mg,rfl,hI,hxi⟩
  dsimp only
  refine wpS_bind (wpS_mono (wpS_forRange (I:=fun y c st'=>st'=Zar st g∧∃o i j ca cb,c=(none,i,j,o,ca,cb)∧HiI D L p q T o i j∧y+x+(i+j)≤p.size+q.size)
   (Q:=fun c st'=>st'=Zar st g∧∃r o i j ca cb,c=(r,i,j,o,ca,cb)∧((∃z,r=some z∧Fin1 L T z)∨(r=none∧HiI D L p q T o i j∧x+1+(i+j)≤p.size+q.size))) ?s1 ?f1 ⟨rfl,_,_,_,_,_,rfl,hI,by omega⟩) ?p1)
  case f1=>
   rintro c st' ⟨rfl,o,i,j,ca,cb,rfl,hI,hx⟩
   have:=hI.li;have:=hI.lj
   omega
  case s1=>
   rintro y c st' _ hy ⟨rfl,o,i,j,ca,cb,rfl,hI,hxi⟩
   obtain⟨h,hi,hj,hip,hjq⟩:=hI
   obtain⟨u,hu,hum⟩:=at? (p:=q) (i:=j-1) (by omega)
   obtain⟨v,hv,hvm⟩:=at? (p:=p) (i:=i-1) (by omega)
   have hDu:=hH.dq u hum
   have hDv:=hH.dp v hvm
   have uge:=Zdt hC hH.dq hH.sq (by omega) hu hum
   have vge:=Zdt hC hH.dp hH.sp hi hv hvm
   dsimp only
   refine wpS_bind (ZaG hu (wpS_bind (ZaG hv (wpS_bind (hP _ _ _ _ hk hDu hDv ?_)))))
   dsimp only
   cases hL:L u v with
   | true=>
    rw[if_pos rfl]
    refine wpS_bind (ZaG hv ?_)
    have h2:MR D L T p q (o.push v) (i-1) j:=by
     unfold MR at h ⊢
     rw[Array.toList_push]
     rw[Zhu hi hv]at h
     refine MS.movX h fun a ha b hb=>?_
     have ha:a=v:=by simpa using ha
     subst ha
     have hb:=List.mem_reverse.mp hb
     exact hC.tr b u a (hH.dq b (List.mem_of_mem_take hb)) hDu hDv (uge b hb) (hC.asym _ _ hDu hDv hL)
    by_cases c3:i-1=0
    ·rw[if_pos (by simpa using c3)]
     exact wpS_pure ⟨rfl,_,_,_,_,_,_,rfl,.inl ⟨_,rfl,Zfn h2 c3⟩⟩
    ·rw[if_neg (by simpa using c3)]
     have hI:HiI D L p q T (o.push v) (i-1) j:=⟨h2,by omega,by omega,by omega,by omega⟩
     split
     ·exact wpS_pure ⟨rfl,_,_,_,_,_,_,rfl,.inr ⟨rfl,hI,by omega⟩⟩
     ·exact wpS_pure ⟨rfl,_,_,_,_,_,rfl,hI,by omega⟩
   | false=>
    rw[if_neg Bool.false_ne_true]
    refine wpS_bind (ZaG hu ?_)
    have h2:MR D L T p q (o.push u) i (j-1):=by
     unfold MR at h ⊢
     rw[Array.toList_push]
     rw[Zhu (by omega) hu]at h
     refine MS.movY h fun a ha b hb=>?_
     have ha:a=u:=by simpa using ha
     subst ha
     have hb:=List.mem_reverse.mp hb
     exact hC.tr b v a (hH.dp b (List.mem_of_mem_take hb)) hDv hDu (vge b hb) hL
    by_cases c3:j-1=1
    ·rw[if_pos (by simpa using c3)]
     exact wpS_pure ⟨rfl,_,_,_,_,_,_,rfl,.inl ⟨_,rfl,hH.fin_fb hC h2 c3⟩⟩
    ·rw[if_neg (by simpa using c3)]
     have hI:HiI D L p q T (o.push u) i (j-1):=⟨h2,by omega,by omega,by omega,by omega⟩
     split
     ·exact wpS_pure ⟨rfl,_,_,_,_,_,_,rfl,.inr ⟨rfl,hI,by omega⟩⟩
     ·exact wpS_pure ⟨rfl,_,_,_,_,_,rfl,hI,by omega⟩
  case p1=>
   rintro c st' ⟨rfl,r,o,i,j,ca,cb,rfl,⟨z,rfl,hz⟩|⟨rfl,hI,hw⟩⟩
   ·exact wpS_pure ⟨g,rfl,z,o,i,j,mg,rfl,hz⟩
   ·dsimp only
    refine wpS_bind (wpS_lift (wpAny_rule ⟨rfl,?_⟩))
    refine wpS_bind (wpS_mono (wpS_forRange (I:=fun y c st'=>(∃g,st'=Zar st g)∧HiY D L p q T (p.size+q.size-y-(x+1)) c)
     (Q:=fun c st'=>(∃g,st'=Zar st g)∧HiQ D L p q T (p.size+q.size-(x+1)) c) ?s2 ?f2 ⟨⟨g,rfl⟩,_,_,_,_,_,_,rfl,hI,by omega⟩) ?p2)
    case f2=>
     rintro c st' ⟨_,o,i,j,mg,ca,cb,rfl,hI,hx⟩
     have:=hI.li;have:=hI.lj
     omega
    case p2=>
     rintro c st' ⟨⟨g,rfl⟩,r,o,i,j,mg,ca,cb,rfl,⟨z,rfl,hz⟩|⟨rfl,hI,hw⟩⟩
     ·exact wpS_pure ⟨g,rfl,z,o,i,j,mg,rfl,hz⟩
     ·exact wpS_bind (wpS_modify (wpS_pure ⟨_,rfl,o,i,j,mg+1,rfl,hI,by have:=hI.li;omega⟩))
    case s2=>
     rintro y c st' _ hy ⟨⟨g,rfl⟩,o,i,j,mg,ca,cb,rfl,hI,hw⟩
     have key:∀mg,wpS M A E s (hiF p q o i j mg ca cb) (fun r st'=>match r with | .done c'=>(∃g,st'=Zar st g)∧HiQ D L p q T (p.size+q.size-(x+1)) c' | .yield c'=>(∃g,st'=Zar st g)∧HiY D L p q T (p.size+q.size-(y+1)-(x+1)) c') (Zar st g):=by
      intro mg
      have:=hI.li
      refine wpS_mono (Zk1 (w:=p.size+q.size-(y+1)-(x+1)) hH hC hP hk (by omega) hI) ?_
      rintro r st' ⟨hg,hr⟩
      cases r with
      | done c=>
       obtain⟨r,o,i,j,mg,ca,cb,rfl,h | ⟨rfl,hI,hw⟩⟩:=hr
       ·exact⟨hg,r,o,i,j,mg,ca,cb,rfl,.inl h⟩
       ·exact⟨hg,none,o,i,j,mg,ca,cb,rfl,.inr ⟨rfl,hI,by omega⟩⟩
      | yield c=>exact⟨hg,hr⟩
     refine wpS_mono (Q:=fun r st'=>match r with | .done c'=>(∃g,st'=Zar st g)∧HiQ D L p q T (p.size+q.size-(x+1)) c' | .yield c'=>(∃g,st'=Zar st g)∧HiY D L p q T (p.size+q.size-(y+1)-(x+1)) c') ?_ (fun r st' hr=>by cases r<;>exact hr)
     by_cases hmg:mg>1
     ·rw[if_pos (show (none,i,j,o,mg,ca,cb).snd.snd.snd.snd.fst>1 from hmg)]
      refine Eq.mp ?_ (key (mg-1))
      refine congrArg (fun m=>wpS M A E s m _ _) ?_
      unfold hiF hiD hiE fbh dnh
      dsimp only
     ·rw[if_neg (show ¬(none,i,j,o,mg,ca,cb).snd.snd.snd.snd.fst>1 from hmg)]
      exact key mg
end
noncomputable def mAtB (i:Nat):StateT SortSt Sem Bool:=do
 let v ←get
 let (some (sa,na,pw),some (sb,nb,_)):=((pendingOf v)[i]?,(pendingOf v)[i+1]?) | unsupported "internal:list.sort.pending"
 set (setPending v (((pendingOf v).setIfInBounds i (sa,na+nb,pw)).eraseIdxIfInBounds (i+1)))
 let some k ←gal false (←elem' (arrOf v) sb) (arrOf v) sa na 0 | return false
 let (sa,na):=(sa+k,na-k)
 if na == 0 then return true
 let some nb ←gal true (←elem' (arrOf v) (sa+na-1)) (arrOf v) sb nb (nb-1) | return false
 if nb == 0 then return true
 let x:=(arrOf v).extract sa sb
 let y:=(arrOf v).extract sb (sb+nb)
 let mm ←if na≤nb then mLo x y else mHi x y
 modify fun u=>setArr u (mm.toList.zipIdx.foldl (fun a (p,j)=>a.setIfInBounds (sa+j) p) (arrOf u))
 return (failedOf (←get)).isNone
theorem ZkJ (i:Nat):mergeAt' i=mAtB i:=rfl
theorem ZiQ {M:Model}{A:Around}{E:Value→Shared→Prop}{s:Shared}{σ:Type}{v:σ}{Q:PUnit→σ→Prop}{st:σ}(h:Q ⟨⟩ v):wpS M A E s (set v:StateT σ Sem PUnit) Q st:=by
 unfold wpS;rw[StateT.run_set];exact wpAny_pure ⟨rfl,h⟩
noncomputable def putL (a:Array Keyed) (b:Nat) (l:List Keyed):Array Keyed:=l.zipIdx.foldl (fun a (p,j)=>a.setIfInBounds (b+j) p) a
theorem Zgw:∀(l:List Keyed) (n b:Nat) (a:Array Keyed) (x y z:List Keyed),a.toList=x++y++z→x.length=b+n→y.length=l.length →
  ((l.zipIdx n).foldl (fun a (p,j)=>a.setIfInBounds (b+j) p) a).toList=x++l++z
 | [],n,b,a,x,y,z,h,hx,hy=>by
  have:y=[]:=List.length_eq_zero_iff.mp hy
  subst this;simpa using h
 | e::l,n,b,a,x,y,z,h,hx,hy=>by
  cases y with
  | nil=>simp at hy
  | cons f y=>
   rw[List.zipIdx_cons,List.foldl_cons]
   have:=Zgw l (n+1) b (a.setIfInBounds (b+n) e) (x++[e]) y z (by
    rw[Array.toList_setIfInBounds,h,←hx,List.append_assoc,List.cons_append,List.set_append_right _ _ (Nat.le_refl _),Nat.sub_self]
    simp) (by simp;omega) (by simpa using hy)
   rw[this];simp
theorem Zgv {l:List Keyed}{b:Nat}{a:Array Keyed}{x y z:List Keyed}(h:a.toList=x++y++z)(hx:x.length=b)(hy:y.length=l.length):(putL a b l).toList=x++l++z:=
 Zgw l 0 b a x y z h (by omega) hy
section
variable {M:Model}{A:Around}{E:Value→Shared→Prop}{s:Shared}{D:Keyed→Prop}{L:Keyed→Keyed→Bool}{kd:SortKind}{st:SortSt}
theorem slice {a:Array Keyed}{x y z:List Keyed}{b n:Nat}(h:a.toList=x++y++z)(hb:b=x.length)(hn:n=y.length):(a.toList.drop b).take n=y:=by
 rw[h,hb,hn,List.append_assoc,List.drop_left,List.take_left]
theorem ZkI {i pw pw2:Nat}{W X Y Z:List Keyed}{Q:Bool→SortSt→Prop}(hC:Cmp D L)(hP:PureC M A E s D L kd)(hk:kindOf st=kd)(hf:failedOf st=none)
  (ha:(arrOf st).toList=W++X++Y++Z) (hd:∀u∈(arrOf st).toList,D u) (hX:X≠[]) (hY:Y≠[]) (sX:X.Pairwise (Le L)) (sY:Y.Pairwise (Le L))
  (h1:(pendingOf st)[i]?=some (W.length,X.length,pw)) (h2:(pendingOf st)[i+1]?=some (W.length+X.length,Y.length,pw2))
  (hQ:∀(V:List Keyed) (a:Array Keyed) g,a.toList=W++V++Z→V.Perm (X++Y)→V.Pairwise (Le L)→Q true (SortSt.mk' kd a (((pendingOf st).setIfInBounds i (W.length,X.length+Y.length,pw)).eraseIdxIfInBounds (i+1)) g none)):
  wpS M A E s (mergeAt' i) Q st:=by
 rw[ZkJ];unfold mAtB
 refine wpS_bind (wpS_get ?_)
 rw[h1,h2]
 dsimp only
 refine wpS_bind (ZiQ ?_)
 have hsz:(arrOf st).size=W.length+X.length+Y.length+Z.length:=by rw[←Array.length_toList,ha];simp;omega
 have hXp:0<X.length:=List.length_pos_iff.mpr hX
 have hYp:0<Y.length:=List.length_pos_iff.mpr hY
 have dX:∀u∈X,D u:=fun u hu=>hd u (by rw[ha];simp[hu])
 have dY:∀u∈Y,D u:=fun u hu=>hd u (by rw[ha];simp[hu])
 obtain⟨y0,Y',rfl⟩:∃y l,Y=y::l:=by cases Y with | nil=>exact absurd rfl hY | cons y l=>exact⟨y,l,rfl⟩
 have hy0:(arrOf st)[W.length+X.length]?=some y0:=by
  rw[←Array.getElem?_toList,ha,List.append_assoc,List.getElem?_append_right (by simp)]
  simp
 have dy0:=dY y0 (by simp)
 refine wpS_bind (ZaG hy0 ?_)
 have sl1:=slice (a:=arrOf st) (x:=W) (y:=X) (z:=y0::Y'++Z) (b:=W.length) (n:=X.length) (by rw[ha];simp) rfl rfl
 have sl2:=slice (a:=arrOf st) (x:=W++X) (y:=y0::Y') (z:=Z) (b:=W.length+X.length) (n:=(y0::Y').length) (by rw[ha]) (by simp) rfl
 refine wpS_bind (Zc7 hC hP (by exact hk) (by omega) hXp dy0 hd (by rw[sl1];exact sX) ?_)
 rw[sl1]
 intro k hkn ha1 hb1
 replace ha1:∀u∈X.take k,Le L u y0:=ha1
 replace hb1:∀u∈X.drop k,L y0 u=true:=hb1
 dsimp only
 have y0le:∀v∈y0::Y',Le L y0 v:=by
  intro v hv
  rcases List.mem_cons.mp hv with rfl | hv
  ·exact le_refl' hC dy0
  ·exact(List.pairwise_cons.mp sY).1 v hv
 have X1Y:∀u∈X.take k,∀v∈y0::Y',Le L u v:=fun u hu v hv=>hC.tr u y0 v (dX u (List.mem_of_mem_take hu)) dy0 (dY v hv) (ha1 u hu) (y0le v hv)
 by_cases c1:X.length-k=0
 ·rw[if_pos (by simpa using c1)]
  refine wpS_pure ?_
  have e:X.take k=X:=List.take_of_length_le (by omega)
  rw[e]at X1Y
  have:=hQ (X++(y0::Y')) (arrOf st) (gallopOf st) (by rw[ha];simp) (List.Perm.refl _) (List.pairwise_append.mpr ⟨sX,sY,X1Y⟩)
  rw[←hk,←hf]at this
  exact this
 rw[if_neg (by simpa using c1)]
 obtain⟨xl,hxl⟩:∃xl,X[X.length-1]?=some xl:=⟨X[X.length-1],List.getElem?_eq_getElem (by omega)⟩
 have hxm:xl∈X:=List.mem_of_getElem? hxl
 have hxl2:xl∈X.drop k:=by
  refine List.mem_of_getElem? (i:=X.length-1-k) ?_
  rw[List.getElem?_drop,←hxl];congr 1;omega
 have hxa:(arrOf st)[W.length+k+(X.length-k)-1]?=some xl:=by
  rw[←Array.getElem?_toList,ha,List.append_assoc,List.append_assoc,List.getElem?_append_right (by omega),List.getElem?_append_left (by omega),←hxl]
  congr 1;omega
 refine wpS_bind (ZaG hxa ?_)
 refine wpS_bind (Zc7 hC hP (by exact hk) (by simp at hsz ⊢;omega) (by simp) (dX xl hxm) hd (by rw[sl2];exact sY) ?_)
 rw[sl2]
 intro n hnn ha2 hb2
 replace ha2:∀u∈(y0::Y').take n,L u xl=true:=ha2
 replace hb2:∀u∈(y0::Y').drop n,Le L xl u:=hb2
 dsimp only
 have hn0:n≠0:=by
  rintro rfl
  have h5:=hb1 xl hxl2
  rw[show L y0 xl=false from hb2 y0 (by simp)]at h5
  cases h5
 rw[if_neg (by simpa using hn0)]
 obtain⟨x,hx⟩:∃x,x=(arrOf st).extract (W.length+k) (W.length+X.length):=⟨_,rfl⟩
 obtain⟨y,hy⟩:∃y,y=(arrOf st).extract (W.length+X.length) (W.length+X.length+n):=⟨_,rfl⟩
 have xL:x.toList=X.drop k:=by
  rw[hx,Array.toList_extract,List.extract]
  exact slice (x:=W++X.take k) (z:=y0::Y'++Z) (by rw[ha];simp only[List.append_assoc];rw[←List.append_assoc (X.take k),List.take_append_drop]) (by rw[List.length_append,List.length_take,Nat.min_eq_left hkn]) (by rw[List.length_drop];omega)
 have yL:y.toList=(y0::Y').take n:=by
  rw[hy,Array.toList_extract,List.extract]
  exact slice (x:=W++X) (z:=(y0::Y').drop n++Z) (by rw[ha];simp only[List.append_assoc];rw[←List.append_assoc (List.take n _),List.take_append_drop]) (by rw[List.length_append]) (by rw[List.length_take,Nat.min_eq_left hnn];omega)
 have xS:x.size=X.length-k:=by rw[←Array.length_toList,xL,List.length_drop]
 have yS:y.size=n:=by rw[←Array.length_toList,yL,List.length_take,Nat.min_eq_left hnn]
 have y1:y.toList.take 1=[y0]:=by
  rw[yL,List.take_take,Nat.min_eq_left (by omega)];simp
 have xd:∀v∈x.toList.drop (x.size-1),v=xl:=by
  intro v hv
  rw[xL,xS,List.drop_drop]at hv
  have:X.drop (k+(X.length-k-1))=[xl]:=by
   obtain⟨h5,h6⟩:=List.getElem?_eq_some_iff.mp hxl
   rw[show k+(X.length-k-1)=X.length-1 by omega,List.drop_eq_getElem_cons h5,h6,List.drop_eq_nil_of_le (by omega)]
  rw[this]at hv
  simpa using hv
 have dx:∀u∈x.toList,D u:=fun u hu=>dX u (List.mem_of_mem_drop (xL▸hu))
 have dy:∀u∈y.toList,D u:=fun u hu=>dY u (List.mem_of_mem_take (yL▸hu))
 have sx:x.toList.Pairwise (Le L):=by rw[xL];exact sX.sublist (List.drop_sublist _ _)
 have sy:y.toList.Pairwise (Le L):=by rw[yL];exact sY.sublist (List.take_sublist _ _)
 have y0x:∀v∈x.toList,L y0 v=true:=fun v hv=>hb1 v (xL▸hv)
 have yxl:∀u∈y.toList,L u xl=true:=fun u hu=>ha2 u (yL▸hu)
 have main:∀(z:Array Keyed) g,Fin1 L (x.toList++y.toList) z→wpS M A E s (do
   modify fun u=>setArr u (putL (arrOf u) (W.length+k) z.toList)
   return (failedOf (←get)).isNone) Q (Zar (setPending st (((pendingOf st).setIfInBounds i (W.length,X.length+(y0::Y').length,pw)).eraseIdxIfInBounds (i+1))) g):=by
  rintro z g ⟨hz1,hz2⟩
  refine wpS_bind (wpS_modify (wpS_bind (wpS_get (wpS_pure ?_))))
  show Q (failedOf st).isNone _
  rw[hf]
  have hzl:(X.drop k++(y0::Y').take n).length=z.toList.length:=by rw[hz1.length_eq,xL,yL]
  have hp:(putL (arrOf st) (W.length+k) z.toList).toList=W++(X.take k++z.toList++(y0::Y').drop n)++Z:=by
   rw[Zgv (x:=W++X.take k) (y:=X.drop k++(y0::Y').take n) (z:=(y0::Y').drop n++Z) (by
    rw[ha];simp only[List.append_assoc]
    rw[←List.append_assoc (List.take n _),List.take_append_drop,←List.append_assoc (X.take k),List.take_append_drop]) (by rw[List.length_append,List.length_take,Nat.min_eq_left hkn]) hzl]
   simp only[List.append_assoc]
  have zm:∀v∈z.toList,v∈X.drop k∨v∈(y0::Y').take n:=fun v hv=>by
   have:=hz1.mem_iff.mp hv
   rw[xL,yL]at this
   exact List.mem_append.mp this
  have dxl:=dX xl hxm
  have:=hQ (X.take k++z.toList++(y0::Y').drop n) _ g hp ?_ ?_
  ·rw[←hk,←hf]at this
   exact this
  ·have e1:(X.take k++z.toList++(y0::Y').drop n).Perm (X.take k++(X.drop k++(y0::Y').take n)++(y0::Y').drop n):=by
    refine List.Perm.append_right _ (List.Perm.append_left _ ?_)
    rw[xL,yL]at hz1;exact hz1
   refine e1.trans (List.Perm.of_eq ?_)
   rw[←List.append_assoc,List.take_append_drop,List.append_assoc,List.take_append_drop]
  ·have zY2:∀u∈z.toList,∀v∈(y0::Y').drop n,Le L u v:=by
    intro u hu v hv
    rcases zm u hu with h | h
    ·have hux:Le L u xl:=by
      have e5:X=X.take (X.length-1)++[xl]:=by
       obtain⟨h5,h6⟩:=List.getElem?_eq_some_iff.mp hxl
       conv=>lhs;rw[←List.take_append_drop (X.length-1) X,List.drop_eq_getElem_cons h5,h6,List.drop_eq_nil_of_le (by omega)]
      have hu':u∈X:=List.mem_of_mem_drop h
      rw[e5]at sX hu'
      rcases List.mem_append.mp hu' with hu' | hu'
      ·exact(List.pairwise_append.mp sX).2.2 u hu' xl (by simp)
      ·have:u=xl:=by simpa using hu'
       subst this;exact le_refl' hC dxl
     exact hC.tr u xl v (dX u (List.mem_of_mem_drop h)) dxl (dY v (List.mem_of_mem_drop hv)) hux (hb2 v hv)
    ·have e5:=sY
     rw[←List.take_append_drop n (y0::Y')]at e5
     exact(List.pairwise_append.mp e5).2.2 u h v hv
   rw[List.pairwise_append,List.pairwise_append]
   refine⟨⟨sX.sublist (List.take_sublist _ _),hz2,fun u hu v hv=>?_⟩,sY.sublist (List.drop_sublist _ _),fun u hu v hv=>?_⟩
   ·rcases zm v hv with h | h
    ·have e5:=sX
     rw[←List.take_append_drop k X]at e5
     exact(List.pairwise_append.mp e5).2.2 u hu v h
    ·exact X1Y u hu v (List.mem_of_mem_take h)
   ·rcases List.mem_append.mp hu with hu | hu
    ·exact X1Y u hu v (List.mem_of_mem_drop hv)
    ·exact zY2 u hu v hv
 have xp:0<x.size:=by omega
 have yp:0<y.size:=by omega
 rw[←hx,←hy]
 by_cases c3:X.length-k≤n
 ·rw[if_pos c3]
  refine wpS_bind (ZkE (st:=setPending st _) ⟨dx,dy,sx,sy,fun u hu v hv=>by rw[xd v hv];exact yxl u hu⟩ hC hP (by exact hk) xp yp (fun u hu v hv=>?_) fun z g hz=>main z g hz)
  have hu:u=y0:=by rw[y1]at hu;simpa using hu
  subst hu
  exact hC.asym u v dy0 (dx v hv) (y0x v hv)
 ·rw[if_neg c3]
  refine wpS_bind (ZkG (st:=setPending st _) ⟨dx,dy,sx,sy,fun u hu v hv=>by rw[y1]at hu;rw[show u=y0 by simpa using hu];exact y0x v hv⟩ hC hP (by exact hk) xp yp (fun u hu v hv=>?_) fun z g hz=>main z g hz)
  rw[xd u hu]
  exact hC.asym v xl (dy v hv) (dX xl hxm) (yxl v hv)
end
abbrev CmpT (L:Keyed→Keyed→Bool):Prop:=Cmp (fun _=>True) L
theorem CmpT.to {L:Keyed→Keyed→Bool}{D:Keyed→Prop}(h:CmpT L):Cmp D L:=⟨fun x y _ _=>h.asym x y trivial trivial,fun x y z _ _ _=>h.tr x y z trivial trivial trivial⟩
theorem CmpT.rf {L:Keyed→Keyed→Bool}(h:CmpT L)(x:Keyed):Le L x x:=le_refl' h trivial
theorem CmpT.le {L:Keyed→Keyed→Bool}(h:CmpT L){x y:Keyed}(e:L x y=true):Le L x y:=h.asym x y trivial trivial e
theorem CmpT.t {L:Keyed→Keyed→Bool}(h:CmpT L){x y z:Keyed}(e:Le L x y)(f:Le L y z):Le L x z:=h.tr x y z trivial trivial trivial e f
theorem CmpT.lt_le {L:Keyed→Keyed→Bool}(h:CmpT L){x y z:Keyed}(e:L x y=true)(f:Le L y z):L x z=true:=by
 cases hx:L x z with
 | true=>rfl
 | false=>rw[h.tr y z x trivial trivial trivial f hx]at e;cases e
noncomputable def at0 (a:Array Keyed) (i:Nat):Keyed:=(a[i]?).getD (.none,.none)
theorem ZcQ {a b:Array Keyed}{i j:Nat}(h:a[i]?=b[j]?):at0 a i=at0 b j:=by unfold at0;rw[h]
noncomputable def SegU (L:Keyed→Keyed→Bool) (a:Array Keyed) (l h:Nat):Prop:=∀i j,l≤i→i≤j→j<h→Le L (at0 a i) (at0 a j)
noncomputable def SegD (L:Keyed→Keyed→Bool) (a:Array Keyed) (l h:Nat):Prop:=∀i j,l≤i→i≤j→j<h→Le L (at0 a j) (at0 a i)
structure Kept (lo:Nat)(a b:Array Keyed):Prop where
 perm:b.Perm a
 pre:∀k,k<lo→b[k]?=a[k]?
theorem Kept.rf (lo:Nat)(a:Array Keyed):Kept lo a a:=⟨Array.Perm.refl _,fun _ _=>rfl⟩
theorem Kept.tr {lo:Nat}{a b c:Array Keyed}(h:Kept lo a b)(k:Kept lo b c):Kept lo a c:=⟨k.perm.trans h.perm,fun i hi=>(k.pre i hi).trans (h.pre i hi)⟩
theorem Kept.sz {lo:Nat}{a b:Array Keyed}(h:Kept lo a b):b.size=a.size:=h.perm.size_eq
theorem Kept.d {lo:Nat}{a b:Array Keyed}{D:Keyed→Prop}(h:Kept lo a b)(hd:∀u∈a.toList,D u):∀u∈b.toList,D u:=fun u hu=>hd u ((Array.perm_iff_toList_perm.mp h.perm).mem_iff.mp hu)
theorem Zhq {xs:Array Keyed}{src d:Nat}(hs:src<xs.size)(hd:d≤src)(k:Nat):
  at0 (bubble xs src d) k=if k=src-d then at0 xs src else if src-d<k∧k≤src then at0 xs (k-1) else at0 xs k:=by
 have e:=getElem?_bubble hs d hd k
 repeat' split
 all_goals (refine ZcQ (e.trans ?_);first | rw[if_pos (by assumption)] | (rw[if_neg (by assumption)];first | rw[if_pos (by assumption)] | rw[if_neg (by assumption)]))
theorem ZeT {xs:Array Keyed}{i j:Nat}(hj:j≤xs.size)(k:Nat):
  at0 (mirror xs i j ((j-i)/2)) k=if i≤k∧k<j then at0 xs (i+j-1-k) else at0 xs k:=by
 have e:=getElem?_mirror_all (i:=i) hj k
 split
 ·exact ZcQ (e.trans (if_pos (by assumption)))
 ·exact ZcQ (e.trans (if_neg (by assumption)))
theorem Kept.bub {lo src d:Nat}{a:Array Keyed}(hs:src<a.size)(hd:lo+d≤src):Kept lo a (bubble a src d):=
 ⟨bubble_perm _ _ _,fun k hk=>by rw[getElem?_bubble hs d (by omega),if_neg (by omega),if_neg (by omega)]⟩
theorem Kept.mir {lo i j:Nat}{a:Array Keyed}(hj:j≤a.size)(hl:lo≤i):Kept lo a (mirror a i j ((j-i)/2)):=
 ⟨mirror_perm _ _ _ _,fun k hk=>by rw[getElem?_mirror_all hj,if_neg (by omega)]⟩
section
variable {M:Model}{A:Around}{E:Value→Shared→Prop}{s:Shared}{D:Keyed→Prop}{L:Keyed→Keyed→Bool}{kd:SortKind}{st:SortSt}
theorem Zd2 {a:Array Keyed}{i j:Nat}{Q:Option Bool→SortSt→Prop}(hP:PureC M A E s D L kd)(hk:kindOf st=kd)(hd:∀u∈a.toList,D u)(hi:i<a.size)(hj:j<a.size)
  (q:Q (some (L (at0 a i) (at0 a j))) (setArr st a)):wpS M A E s (ltAt' i j) Q (setArr st a):=by
 obtain⟨x,hx,hxm⟩:=at? hi
 obtain⟨y,hy,hym⟩:=at? hj
 have ex:at0 a i=x:=by unfold at0;rw[hx];rfl
 have ey:at0 a j=y:=by unfold at0;rw[hy];rfl
 rw[ex,ey]at q
 rw[ltAt'_eq]
 refine wpS_bind (wpS_get ?_)
 exact wpS_bind (ZaG hx (wpS_bind (ZaG hy (hP _ _ _ _ hk (hd x hxm) (hd y hym) q))))
theorem ZjF {a:Array Keyed}{lo n ok:Nat}{Q:Bool→SortSt→Prop}(hC:CmpT L)(hP:PureC M A E s D L kd)(hk:kindOf st=kd)(hd:∀u∈a.toList,D u)(hn:lo+n≤a.size)(hok:ok≤n)
  (hs:SegU L a lo (lo+ok)) (h:∀b,Kept lo a b→SegU L b lo (lo+n)→Q true (setArr st b)):wpS M A E s (binarySort' lo n ok) Q (setArr st a):=by
 rw[binarySort'_eq]
 refine wpS_bind (wpS_mono (wpS_forRange (I:=fun k c st'=>c=(none,())∧∃b,st'=setArr st b∧Kept lo a b∧SegU L b lo (lo+min k n))
  (Q:=fun c st'=>c=(none,())∧∃b,st'=setArr st b∧Kept lo a b∧SegU L b lo (lo+n)) ?step ?fin ?init) ?post)
 case post=>
  rintro c st' ⟨rfl,b,rfl,hb,hs'⟩
  exact wpS_pure (h b hb hs')
 case init=>
  refine⟨rfl,a,rfl,Kept.rf _ _,fun i j hl hij hj=>?_⟩
  by_cases h1:ok=0
  ·have:i=j:=by omega
   subst this;exact hC.rf _
  ·exact hs i j hl hij (by omega)
 case fin=>
  rintro c st' ⟨hc,b,hst,hb,hs'⟩
  refine⟨hc,b,hst,hb,?_⟩
  rwa [show min (max (max ok 1) n) n=n by omega]at hs'
 case step=>
  rintro k c st' hak hkn ⟨rfl,b,rfl,hb,hs'⟩
  rw[show min k n=k by omega]at hs'
  have hsz:=hb.sz
  have hdb:=hb.d hd
  refine wpS_bind (wpS_mono (wpS_forRange (I:=fun x c st''=>st''=setArr st b∧∃l r,c=(none,l,r)∧l≤r∧r≤k∧r-l≤k-x ∧
    (∀i,lo≤i→i<lo+l→Le L (at0 b i) (at0 b (lo+k)))∧(∀i,lo+r≤i→i<lo+k→L (at0 b (lo+k)) (at0 b i)=true))
   (Q:=fun c st''=>st''=setArr st b∧∃l r,c=(none,l,r)∧l≤k ∧
    (∀i,lo≤i→i<lo+l→Le L (at0 b i) (at0 b (lo+k)))∧(∀i,lo+l≤i→i<lo+k→L (at0 b (lo+k)) (at0 b i)=true)) ?istep ?ifin ?iinit) ?ipost)
  case iinit=>exact⟨rfl,0,k,rfl,by omega,by omega,by omega,fun i h1 hi=>by omega,fun i h1 h2=>by omega⟩
  case ifin=>
   rintro c st'' ⟨rfl,l,r,rfl,hlr,hrk,hm,hlo,hhi⟩
   have:l=r:=by omega
   subst this
   exact⟨rfl,l,l,rfl,hrk,hlo,hhi⟩
  case istep=>
   rintro x c st'' _ hxk ⟨rfl,l,r,rfl,hlr,hrk,hm,hlo,hhi⟩
   dsimp only
   by_cases hge:l≥r
   ·rw[if_pos hge]
    have:l=r:=by omega
    subst this
    exact wpS_pure ⟨rfl,l,l,rfl,hrk,hlo,hhi⟩
   ·rw[if_neg hge]
    refine wpS_bind (Zd2 hP hk hdb (by omega) (by omega) ?_)
    cases hless:L (at0 b (lo+k)) (at0 b (lo+(l+r)/2)) with
    | true=>exact wpS_pure ⟨rfl,l,(l+r)/2,rfl,by omega,by omega,by omega,hlo,fun i h1 h2=>hC.lt_le hless (hs' _ _ (by omega) h1 h2)⟩
    | false=>exact wpS_pure ⟨rfl,(l+r)/2+1,r,rfl,by omega,by omega,by omega,fun i h0 h1=>hC.t (hs' i (lo+(l+r)/2) h0 (by omega) (by omega)) hless,hhi⟩
  case ipost=>
   rintro c st'' ⟨rfl,l,r,rfl,hlk,hlo,hhi⟩
   show wpS _ _ _ _ (do moveDown' (lo+k) (lo+l);pure (ForInStep.yield (none,()))) _ _
   rw[moveDown'_eq]
   have hks:lo+k<b.size:=by omega
   refine wpS_bind (wpS_modify (wpS_pure ⟨rfl,bubble b (lo+k) (lo+k-(lo+l)),rfl,hb.tr (Kept.bub hks (by omega)),?_⟩))
   rw[show min (k+1) n=k+1 by omega]
   intro i j hl hij hj
   rw[Zhq hks (by omega),Zhq hks (by omega),show lo+k-(lo+k-(lo+l))=lo+l by omega]
   repeat' split
   all_goals first
    | (exfalso;omega)
    | exact hC.rf _
    | exact hlo _ (by omega) (by omega)
    | exact hC.le (hhi _ (by omega) (by omega))
    | exact hs' _ _ (by omega) (by omega) (by omega)
end
noncomputable def ascO (lo a nr:Nat):StateT SortSt Sem AscSt:=
 forIn [a:nr] ((none,a):AscSt) fun _ c=>do
  let x ←ltAt' (lo+c.snd) (lo+c.snd-1)
  match x with
  | some sm=>if sm=true then pure (ForInStep.done (none,c.snd)) else pure (ForInStep.yield (none,c.snd+1))
  | _=>pure (ForInStep.done (some none,c.snd))
noncomputable def tailO (lo n nr:Nat):StateT SortSt Sem (Option Nat):=do
 reverseSlice' lo (lo+n)
 let c ←ascO lo n nr
 match c.fst with
 | some r=>pure r
 | none=>pure (some c.snd)
noncomputable def descO (lo n nr:Nat):StateT SortSt Sem DescSt:=
 forIn [n:nr] ((none,n,0):DescSt) fun _ c=>do
  let x ←ltAt' (lo+c.snd.fst) (lo+c.snd.fst-1)
  match x with
  | some sm=>
   if sm=true then
    if c.snd.snd>0 then do
     reverseSlice' (lo+c.snd.fst-(c.snd.snd+1)) (lo+c.snd.fst)
     pure (ForInStep.yield (none,c.snd.fst+1,0))
    else pure (ForInStep.yield (none,c.snd.fst+1,0))
   else do
    let y ←ltAt' (lo+c.snd.fst-1) (lo+c.snd.fst)
    match y with
    | some lg=>
     if lg=true then pure (ForInStep.done (none,c.snd.fst,c.snd.snd))
     else pure (ForInStep.yield (none,c.snd.fst+1,c.snd.snd+1))
    | _=>pure (ForInStep.done (some none,c.snd.fst,c.snd.snd))
  | _=>pure (ForInStep.done (some none,c.snd.fst,c.snd.snd))
section
variable {M:Model}{A:Around}{E:Value→Shared→Prop}{s:Shared}{D:Keyed→Prop}{L:Keyed→Keyed→Bool}{kd:SortKind}{st:SortSt}
noncomputable def Eqv (L:Keyed→Keyed→Bool) (x y:Keyed):Prop:=Le L x y∧Le L y x
theorem Zcm {a:Array Keyed}{i j:Nat}{Q:Unit→SortSt→Prop}(q:Q () (setArr st (mirror a i j ((j-i)/2)))):wpS M A E s (reverseSlice' i j) Q (setArr st a):=by
 rw[reverseSlice'_eq];exact wpS_modify q
theorem Zhr {a:Array Keyed}{lo n0 nr:Nat}{Q:AscSt→SortSt→Prop}(hC:CmpT L)(hP:PureC M A E s D L kd)(hk:kindOf st=kd)(hd:∀u∈a.toList,D u)(hn:lo+nr≤a.size)(h1:1≤n0)(hnn:n0≤nr)
  (hs:SegU L a lo (lo+n0)) (h:∀n,n0≤n→n≤nr→SegU L a lo (lo+n)→(n=nr∨L (at0 a (lo+n)) (at0 a (lo+n-1))=true)→Q (none,n) (setArr st a)):wpS M A E s (ascO lo n0 nr) Q (setArr st a):=by
 unfold ascO
 refine wpS_forRange (I:=fun x c st'=>st'=setArr st a∧c=(none,x)∧SegU L a lo (lo+x)) ?step ?fin ⟨rfl,rfl,hs⟩
 case fin=>
  rintro c st' ⟨rfl,rfl,hs'⟩
  rw[show max n0 nr=nr by omega]at hs' ⊢
  exact h nr hnn (Nat.le_refl _) hs' (.inl rfl)
 case step=>
  rintro x c st' hax hxn ⟨rfl,rfl,hs'⟩
  dsimp only
  refine wpS_bind (Zd2 hP hk hd (by omega) (by omega) ?_)
  cases hl:L (at0 a (lo+x)) (at0 a (lo+x-1)) with
  | true=>exact wpS_pure (h x hax (by omega) hs' (.inr hl))
  | false=>
   refine wpS_pure ⟨rfl,rfl,fun i j hli hij hj=>?_⟩
   by_cases hjx:j<lo+x
   ·exact hs' i j hli hij hjx
   ·have hj':j=lo+x:=by omega
    subst hj'
    by_cases hi':i=lo+x
    ·subst hi';exact hC.rf _
    ·exact hC.t (hs' i (lo+x-1) hli (by omega) (by omega)) hl
theorem Zb9 {a:Array Keyed}{lo n nr:Nat}{Q:Option Nat→SortSt→Prop}(hC:CmpT L)(hP:PureC M A E s D L kd)(hk:kindOf st=kd)(hd:∀u∈a.toList,D u)(hn:lo+nr≤a.size)(h1:1≤n)(hnn:n≤nr)
  (hs:SegD L a lo (lo+n)) (h:∀b m,Kept lo a b→1≤m→m≤nr→SegU L b lo (lo+m)→Q (some m) (setArr st b)):wpS M A E s (tailO lo n nr) Q (setArr st a):=by
 unfold tailO
 refine wpS_bind (Zcm ?_)
 have hK:Kept lo a (mirror a lo (lo+n) ((lo+n-lo)/2)):=Kept.mir (by omega) (Nat.le_refl _)
 refine wpS_bind (Zhr hC hP hk (hK.d hd) (by rw[hK.sz];exact hn) h1 hnn ?_ fun m hm1 hm2 hsm _=>wpS_pure (h _ m hK (by omega) hm2 hsm))
 intro i j hli hij hj
 rw[ZeT (by omega),ZeT (by omega),if_pos (by omega),if_pos (by omega)]
 exact hs _ _ (by omega) (by omega) (by omega)
theorem Zds {a:Array Keyed}{i j:Nat}(hC:CmpT L)(hj:j≤a.size)(he:∀k,i≤k→k<j→Eqv L (at0 a k) (at0 a (j-1)))(k:Nat):Eqv L (at0 (mirror a i j ((j-i)/2)) k) (at0 a k):=by
 rw[ZeT hj]
 split
 ·have e1:=he (i+j-1-k) (by omega) (by omega)
  have e2:=he k (by omega) (by omega)
  exact⟨hC.t e1.1 e2.2,hC.t e2.1 e1.2⟩
 ·exact⟨hC.rf _,hC.rf _⟩
theorem SegD.eqv {a b:Array Keyed}{l h:Nat}(hC:CmpT L)(hs:SegD L a l h)(he:∀k,Eqv L (at0 b k) (at0 a k)):SegD L b l h:=
 fun i j h1 h2 h3=>hC.t (he j).1 (hC.t (hs i j h1 h2 h3) (he i).2)
theorem SegD.more {a:Array Keyed}{l x:Nat}(hC:CmpT L)(hs:SegD L a l x)(hle:l<x→Le L (at0 a x) (at0 a (x-1))):SegD L a l (x+1):=by
 intro i j hli hij hj
 by_cases hjx:j<x
 ·exact hs i j hli hij hjx
 ·have hj':j=x:=by omega
  subst hj'
  by_cases hi':i=j
  ·subst hi';exact hC.rf _
  ·exact hC.t (hle (by omega)) (hs i (j-1) hli (by omega) (by omega))
theorem Zfs {a:Array Keyed}{lo n nr:Nat}{Q:DescSt→SortSt→Prop}(hC:CmpT L)(hP:PureC M A E s D L kd)(hk:kindOf st=kd)(hd:∀u∈a.toList,D u)(hn:lo+nr≤a.size)(h1:1≤n)(hnn:n≤nr)
  (hs:SegD L a lo (lo+n))
  (h:∀b m nq,Kept lo a b→n≤m→m≤nr→SegD L b lo (lo+m)→nq+1≤m→(∀i,lo+m-(nq+1)≤i→i<lo+m→Eqv L (at0 b i) (at0 b (lo+m-1)))→Q (none,m,nq) (setArr st b)):
  wpS M A E s (descO lo n nr) Q (setArr st a):=by
 unfold descO
 refine wpS_forRange (I:=fun x c st'=>∃b nq,st'=setArr st b∧c=(none,x,nq)∧Kept lo a b∧SegD L b lo (lo+x)∧nq+1≤x ∧
   (∀i,lo+x-(nq+1)≤i→i<lo+x→Eqv L (at0 b i) (at0 b (lo+x-1)))) ?step ?fin ⟨a,0,rfl,rfl,Kept.rf _ _,hs,by omega,fun i h1 h2=>by rw[show i=lo+n-1 by omega];exact⟨hC.rf _,hC.rf _⟩⟩
 case fin=>
  rintro c st' ⟨b,nq,rfl,rfl,hK,hs',hq,he⟩
  rw[show max n nr=nr by omega]at hs' hq he ⊢
  exact h b nr nq hK hnn (Nat.le_refl _) hs' hq he
 case step=>
  rintro x c st' hax hxn ⟨b,nq,rfl,rfl,hK,hs',hq,he⟩
  have hbs:=hK.sz
  have hdb:=hK.d hd
  dsimp only
  refine wpS_bind (Zd2 hP hk hdb (by omega) (by omega) ?_)
  cases hl:L (at0 b (lo+x)) (at0 b (lo+x-1)) with
  | true=>
   have hmore:SegD L b lo (lo+x+1):=hs'.more hC fun _=>hC.le hl
   dsimp only
   by_cases hq0:nq>0
   ·rw[if_pos rfl,if_pos hq0]
    refine wpS_bind (Zcm (wpS_pure ⟨_,0,rfl,rfl,hK.tr (Kept.mir (by omega) (by omega)),hmore.eqv hC (Zds hC (by omega) he),by omega,fun i h1 h2=>?_⟩))
    rw[show i=lo+(x+1)-1 by omega];exact⟨hC.rf _,hC.rf _⟩
   ·rw[if_pos rfl,if_neg hq0]
    refine wpS_pure ⟨b,0,rfl,rfl,hK,hmore,by omega,fun i h1 h2=>?_⟩
    rw[show i=lo+(x+1)-1 by omega];exact⟨hC.rf _,hC.rf _⟩
  | false=>
   dsimp only
   rw[if_neg Bool.false_ne_true]
   refine wpS_bind (Zd2 hP hk hdb (by omega) (by omega) ?_)
   cases hg:L (at0 b (lo+x-1)) (at0 b (lo+x)) with
   | true=>exact wpS_pure (h b x nq hK hax (by omega) hs' hq he)
   | false=>
    refine wpS_pure ⟨b,nq+1,rfl,rfl,hK,hs'.more hC fun _=>hg,by omega,fun i h1 h2=>?_⟩
    rw[show lo+(x+1)-1=lo+x by omega]
    by_cases hix:i=lo+x
    ·subst hix;exact⟨hC.rf _,hC.rf _⟩
    ·have e:=he i (by omega) (by omega)
     exact⟨hC.t e.1 hl,hC.t hg e.2⟩
theorem ZjC {a:Array Keyed}{lo nr:Nat}{Q:Option Nat→SortSt→Prop}(hC:CmpT L)(hP:PureC M A E s D L kd)(hk:kindOf st=kd)(hd:∀u∈a.toList,D u)(hn:lo+nr≤a.size)(h1:1≤nr)
  (h:∀b m,Kept lo a b→1≤m→m≤nr→SegU L b lo (lo+m)→Q (some m) (setArr st b)):wpS M A E s (countRun' lo nr) Q (setArr st a):=by
 rw[countRun'_eq]
 refine wpS_bind (wpS_mono (Zhr (Q:=fun c st'=>∃n,c=(none,n)∧st'=setArr st a∧1≤n∧n≤nr∧SegU L a lo (lo+n)∧(n=nr∨L (at0 a (lo+n)) (at0 a (lo+n-1))=true)) hC hP hk hd hn (Nat.le_refl 1) h1 (fun i j hl hij hj=>by have:i=j:=(by omega);subst this;exact hC.rf _) fun n a1 a2 a3 a4=>⟨n,rfl,rfl,a1,a2,a3,a4⟩) ?_)
 rintro c st' ⟨n,rfl,rfl,hn1,hn2,hsn,hor⟩
 dsimp only
 by_cases hnn:n=nr
 ·rw[if_pos (by simpa using hnn)]
  exact wpS_pure (h a n (Kept.rf _ _) hn1 hn2 hsn)
 ·rw[if_neg (by simpa using hnn)]
  have hlt:=hor.resolve_left hnn
  by_cases hgt:n>1
  ·rw[if_pos hgt]
   refine wpS_bind (Zd2 hP hk hd (by omega) (by omega) ?_)
   cases hrose:L (at0 a lo) (at0 a (lo+n-1)) with
   | true=>
    dsimp only
    rw[if_pos rfl]
    exact wpS_pure (h a n (Kept.rf _ _) hn1 hn2 hsn)
   | false=>
    dsimp only
    rw[if_neg Bool.false_ne_true]
    have hall:∀k,lo≤k→k<lo+n→Eqv L (at0 a k) (at0 a (lo+n-1)):=by
     intro k hk1 hk2
     have a1:=hsn lo k (by omega) hk1 hk2
     have a2:=hsn k (lo+n-1) hk1 (by omega) (by omega)
     exact⟨a2,hC.t hrose a1⟩
    have hsd:SegD L a lo (lo+(n+1)):=by
     refine SegD.more hC (fun i j h1 h2 h3=>?_) fun _=>hC.le hlt
     replace h3:j<lo+n:=h3
     exact hC.t (hall j (by omega) h3).1 (hall i h1 (by omega)).2
    have hK:Kept lo a (mirror a lo (lo+n) ((lo+n-lo)/2)):=Kept.mir (by omega) (Nat.le_refl _)
    refine wpS_bind (Zcm ?_)
    obtain⟨b,hb,hKb,hsb⟩:∃b,b=mirror a lo (lo+n) ((lo+n-lo)/2)∧Kept lo a b∧SegD L b lo (lo+(n+1)):=⟨_,rfl,hK,hsd.eqv hC (Zds hC (by omega) hall)⟩
    rw[←hb]
    have hbs:=Kept.sz hKb
    refine wpS_bind (wpS_lift (wpAny_rule ⟨rfl,?_⟩))
    refine wpS_bind (Zfs hC hP hk (Kept.d hKb hd) (by omega) (by omega) (by omega) hsb fun c m nq hK hm1 hm2 hs' hq he=>?_)
    have hcs:=hK.sz
    have hdc:=hK.d (Kept.d hKb hd)
    dsimp only
    by_cases hq0:nq>0
    ·rw[if_pos hq0]
     have hK2:Kept lo c (mirror c (lo+m-(nq+1)) (lo+m) ((lo+m-(lo+m-(nq+1)))/2)):=Kept.mir (by omega) (by omega)
     refine wpS_bind (Zcm ?_)
     refine Eq.mp ?_ (Zb9 (Q:=Q) hC hP hk (hK2.d hdc) (by rw[hK2.sz];omega) (by omega) hm2 (hs'.eqv hC (Zds hC (by omega) he)) fun d k hc=>h d k (Kept.tr hKb (hK.tr (hK2.tr hc))))
     refine congrArg (fun m=>wpS _ _ _ _ m _ _) ?_
     unfold tailO ascO
     refine congrArg _ (funext fun _=>congrArg _ (funext fun c=>?_))
     obtain⟨r3,n3⟩:=c
     cases r3<;>rfl
    ·rw[if_neg hq0]
     refine Eq.mp ?_ (Zb9 (Q:=Q) hC hP hk hdc (by omega) (by omega) hm2 hs' fun d k hc=>h d k (Kept.tr hKb (hK.tr hc)))
     refine congrArg (fun m=>wpS _ _ _ _ m _ _) ?_
     unfold tailO ascO
     refine congrArg _ (funext fun _=>congrArg _ (funext fun c=>?_))
     obtain⟨r3,n3⟩:=c
     cases r3<;>rfl
  ·rw[if_neg hgt]
   obtain⟨b,hb,hKb,hsb⟩:∃b,b=a∧Kept lo a b∧SegD L b lo (lo+(n+1)):=⟨_,rfl,Kept.rf _ _,SegD.more hC (fun i j h1 h2 h3=>by
    replace h3:j<lo+n:=h3
    rw[show i=j by omega];exact hC.rf _) fun _=>hC.le hlt⟩
   rw[←hb]
   have hbs:=Kept.sz hKb
   refine wpS_bind (wpS_lift (wpAny_rule ⟨rfl,?_⟩))
   refine wpS_bind (Zfs hC hP hk (Kept.d hKb hd) (by omega) (by omega) (by omega) hsb fun c m nq hK hm1 hm2 hs' hq he=>?_)
   have hcs:=hK.sz
   have hdc:=hK.d (Kept.d hKb hd)
   dsimp only
   by_cases hq0:nq>0
   ·rw[if_pos hq0]
    have hK2:Kept lo c (mirror c (lo+m-(nq+1)) (lo+m) ((lo+m-(lo+m-(nq+1)))/2)):=Kept.mir (by omega) (by omega)
    refine wpS_bind (Zcm ?_)
    refine Eq.mp ?_ (Zb9 (Q:=Q) hC hP hk (hK2.d hdc) (by rw[hK2.sz];omega) (by omega) hm2 (hs'.eqv hC (Zds hC (by omega) he)) fun d k hc=>h d k (Kept.tr hKb (hK.tr (hK2.tr hc))))
    refine congrArg (fun m=>wpS _ _ _ _ m _ _) ?_
    unfold tailO ascO
    refine congrArg _ (funext fun _=>congrArg _ (funext fun c=>?_))
    obtain⟨r3,n3⟩:=c
    cases r3<;>rfl
   ·rw[if_neg hq0]
    refine Eq.mp ?_ (Zb9 (Q:=Q) hC hP hk hdc (by omega) (by omega) hm2 hs' fun d k hc=>h d k (Kept.tr hKb (hK.tr hc)))
    refine congrArg (fun m=>wpS _ _ _ _ m _ _) ?_
    unfold tailO ascO
    refine congrArg _ (funext fun _=>congrArg _ (funext fun c=>?_))
    obtain⟨r3,n3⟩:=c
    cases r3<;>rfl
end
noncomputable def Pd (L:Keyed→Keyed→Bool):Nat→List (Nat×Nat×Nat)→List (List Keyed)→Prop
 | _,[],[]=>True
 | o,t::ps,r::rs=>t.1=o∧t.2.1=r.length∧r≠[]∧r.Pairwise (Le L)∧Pd L (o+r.length) ps rs
 | _,_,_=>False
section
variable {M:Model}{A:Around}{E:Value→Shared→Prop}{s:Shared}{D:Keyed→Prop}{L:Keyed→Keyed→Bool}{kd:SortKind}{st:SortSt}
theorem Pd.len:∀ {ps:List (Nat×Nat×Nat)} {rs:List (List Keyed)} {o:Nat},Pd L o ps rs→ps.length=rs.length
 | [],[],_,_=>rfl
 | t::ps,r::rs,o,h=>by have:=Pd.len h.2.2.2.2;simp[this]
 | [],_::_,_,h=>h.elim
 | _::_,[],_,h=>h.elim
theorem Pd.le:∀ {ps:List (Nat×Nat×Nat)} {rs:List (List Keyed)} {o:Nat},Pd L o ps rs→ps.length≤rs.flatten.length
 | [],[],_,_=>by simp
 | t::ps,r::rs,o,h=>by
  have h1:=Pd.le h.2.2.2.2
  have h2:=List.length_pos_iff.mpr h.2.2.1
  rw[List.flatten_cons,List.length_append,List.length_cons];omega
 | [],_::_,_,h=>h.elim
 | _::_,[],_,h=>h.elim
theorem Pd.app:∀ {ps:List (Nat×Nat×Nat)} {rs:List (List Keyed)} {o:Nat} {t:Nat×Nat×Nat} {r:List Keyed},Pd L o ps rs→t.1=o+rs.flatten.length→t.2.1=r.length→r≠[]→r.Pairwise (Le L)→Pd L o (ps++[t]) (rs++[r])
 | [],[],o,t,r,_,h1,h2,h3,h4=>⟨by simpa using h1,h2,h3,h4,trivial⟩
 | t::ps,r::rs,o,t',r',h,h1,h2,h3,h4=>⟨h.1,h.2.1,h.2.2.1,h.2.2.2.1,Pd.app h.2.2.2.2 (by rw[h1,List.flatten_cons,List.length_append];omega) h2 h3 h4⟩
 | [],_::_,_,_,_,h,_,_,_,_=>h.elim
 | _::_,[],_,_,_,h,_,_,_,_=>h.elim
theorem Pd.pow:∀ {ps qs:List (Nat×Nat×Nat)} {rs:List (List Keyed)} {o:Nat},Pd L o ps rs→ps.map (fun t=>(t.1,t.2.1))=qs.map (fun t=>(t.1,t.2.1))→Pd L o qs rs
 | [],qs,[],_,_,e=>by
  have:qs=[]:=by simpa using e.symm
  subst this;trivial
 | t::ps,qs,r::rs,o,h,e=>by
  cases qs with
  | nil=>simp at e
  | cons u qs=>
   simp only[List.map_cons,List.cons.injEq,Prod.mk.injEq]at e
   exact⟨e.1.1▸h.1,e.1.2▸h.2.1,h.2.2.1,h.2.2.2.1,Pd.pow h.2.2.2.2 e.2⟩
 | [],_,_::_,_,h,_=>h.elim
 | _::_,_,[],_,h,_=>h.elim
theorem Pd.pick:∀ {ps:List (Nat×Nat×Nat)} {rs:List (List Keyed)} {o i:Nat},Pd L o ps rs→i+1<ps.length →
  ∃ra X Y rb pw pw2,rs=ra++X::Y::rb∧ps[i]?=some (o+ra.flatten.length,X.length,pw)∧ps[i+1]?=some (o+ra.flatten.length+X.length,Y.length,pw2)∧X≠[]∧Y≠[]∧X.Pairwise (Le L)∧Y.Pairwise (Le L) ∧
   ∀V:List Keyed,V.length=X.length+Y.length→V.Pairwise (Le L)→Pd L o ((ps.set i (o+ra.flatten.length,X.length+Y.length,pw)).eraseIdx (i+1)) (ra++V::rb)
 | t::u::ps,r::r2::rs,o,0,h,_=>by
  obtain⟨a1,a2,a3,a4,b1,b2,b3,b4,b5⟩:=h
  obtain⟨t1,t2,t3⟩:=t
  obtain⟨u1,u2,u3⟩:=u
  dsimp only at a1 a2 b1 b2
  subst a1 a2 b1 b2
  refine⟨[],r,r2,rs,t3,u3,rfl,by simp,by simp,a3,b3,a4,b4,fun V hV hs=>?_⟩
  refine⟨by simp,by simpa using hV.symm,?_,hs,?_⟩
  ·intro e;rw[e]at hV;have:=List.length_pos_iff.mpr a3;simp at hV;omega
  ·rw[hV,←Nat.add_assoc];exact b5
 | t::ps,r::rs,o,i+1,h,hi=>by
  obtain⟨a1,a2,a3,a4,a5⟩:=h
  obtain⟨ra,X,Y,rb,pw,pw2,h1,h2,h3,h4,h5,h6,h7,h8⟩:=Pd.pick a5 (i:=i) (by simpa using hi)
  refine⟨r::ra,X,Y,rb,pw,pw2,by rw[h1];rfl,?_,?_,h4,h5,h6,h7,fun V hV hs=>?_⟩
  ·rw[List.getElem?_cons_succ,h2,List.flatten_cons,List.length_append,Nat.add_assoc]
  ·rw[List.getElem?_cons_succ,h3,List.flatten_cons,List.length_append,Nat.add_assoc o]
  ·have:=h8 V hV hs
   rw[List.set_cons_succ,List.eraseIdx_cons_succ,List.flatten_cons,List.length_append,←Nat.add_assoc]
   exact⟨a1,a2,a3,a4,this⟩
 | [_],[_],_,0,_,h=>by simp at h
 | [],_,_,_,_,h=>by simp at h
 | _::_,[],_,_,h,_=>h.elim
 | _::_::_,[_],_,0,h,_=>h.2.2.2.2.elim
 | [_],_::_::_,_,0,h,_=>h.2.2.2.2.elim
structure SI (L:Keyed→Keyed→Bool)(kd:SortKind)(a0:List Keyed)(n:Nat)(Z:List Keyed)(st:SortSt):Prop where
 kind:kindOf st=kd
 fail:failedOf st=none
 perm:(arrOf st).toList.Perm a0
 runs:∃rs:List (List Keyed),(arrOf st).toList=rs.flatten++Z∧rs.flatten.length=n∧Pd L 0 (pendingOf st).toList rs
theorem SI.merge {a0 Z:List Keyed}{n i:Nat}{Q:Bool→SortSt→Prop}(hC:CmpT L)(hP:PureC M A E s D L kd)(hd:∀u∈a0,D u)(h:SI L kd a0 n Z st)(hi:i+1<(pendingOf st).size)
  (q:∀st',SI L kd a0 n Z st'→(pendingOf st').size+1=(pendingOf st).size→Q true st'):wpS M A E s (mergeAt' i) Q st:=by
 obtain⟨h1,h2,h3,rs,h4,h5,h6⟩:=h
 obtain⟨ra,X,Y,rb,pw,pw2,rfl,p1,p2,p3,p4,p5,p6,p7⟩:=h6.pick (i:=i) (by simpa using hi)
 rw[Nat.zero_add]at p1 p2
 have ha:(arrOf st).toList=ra.flatten++X++Y++(rb.flatten++Z):=by rw[h4];simp
 refine ZkI hC.to hP h1 h2 ha (fun u hu=>hd u (h3.mem_iff.mp hu)) p3 p4 p5 p6 (by rw[←Array.getElem?_toList];exact p1) (by rw[←Array.getElem?_toList];exact p2) fun V a g hV hp hs=>?_
 have hl:=hp.length_eq
 rw[List.length_append]at hl
 refine q _ ⟨rfl,rfl,?_,ra++V::rb,?_,?_,?_⟩ ?_
 ·show a.toList.Perm a0
  refine List.Perm.trans ?_ h3
  rw[hV,ha]
  have:=(List.Perm.append_left ra.flatten hp).append_right (rb.flatten++Z)
  simpa using this
 ·show a.toList=_
  rw[hV];simp
 ·rw[←h5];simp[hl];omega
 ·show Pd L 0 (Array.eraseIdxIfInBounds _ _).toList _
  have:=p7 V hl hs
  rw[Nat.zero_add]at this
  rw[Array.toList_eraseIdxIfInBounds,Array.toList_setIfInBounds]
  exact this
 ·show (Array.eraseIdxIfInBounds _ _).size+1=_
  rw[←Array.length_toList,Array.toList_eraseIdxIfInBounds,Array.toList_setIfInBounds,List.length_eraseIdx_of_lt (by simpa using hi),List.length_set,Array.length_toList]
  omega
end
theorem Kept.pref {lo:Nat}{a b:Array Keyed}{F Z:List Keyed}(h:Kept lo a b)(ha:a.toList=F++Z)(hF:F.length=lo):b.toList=F++b.toList.drop lo:=by
 have e:b.toList.take lo=F:=by
  refine List.ext_getElem? fun i=>?_
  rw[List.getElem?_take]
  by_cases hi:i<lo
  ·rw[if_pos hi,Array.getElem?_toList,h.pre i hi,←Array.getElem?_toList,ha,List.getElem?_append_left (by omega)]
  ·rw[if_neg hi,List.getElem?_eq_none (by omega)]
 conv=>lhs;rw[←List.take_append_drop lo b.toList,e]
theorem SegU.pw {L:Keyed→Keyed→Bool}{b:Array Keyed}{lo m:Nat}(h:SegU L b lo (lo+m)):((b.toList.drop lo).take m).Pairwise (Le L):=by
 rw[List.pairwise_iff_getElem]
 intro i j hi hj hij
 rw[List.length_take,List.length_drop,Array.length_toList]at hi hj
 have e:∀k (hk:k<((b.toList.drop lo).take m).length),at0 b (lo+k)=((b.toList.drop lo).take m)[k]:=by
  intro k hk
  rw[List.length_take,List.length_drop,Array.length_toList]at hk
  unfold at0
  rw[getElem?_pos b (lo+k) (by omega)]
  simp
 rw[←e i (by simp;omega),←e j (by simp;omega)]
 exact h _ _ (by omega) (by omega) (by omega)
section
variable {M:Model}{A:Around}{E:Value→Shared→Prop}{s:Shared}{D:Keyed→Prop}{L:Keyed→Keyed→Bool}{kd:SortKind}{st:SortSt}
theorem SI.push {a0 R Z:List Keyed}{lo n p:Nat}(h:SI L kd a0 lo (R++Z) st)(h1:R.length=n)(h2:R≠[])(h3:R.Pairwise (Le L)):SI L kd a0 (lo+n) Z (setPending st ((pendingOf st).push (lo,n,p))):=by
 obtain⟨a1,a2,a3,rs,a4,a5,a6⟩:=h
 refine⟨a1,a2,a3,rs++[R],?_,?_,?_⟩
 ·show (arrOf st).toList=_
  rw[a4];simp
 ·simp[a5,h1]
 ·show Pd L 0 ((pendingOf st).push (lo,n,p)).toList _
  rw[Array.toList_push]
  exact a6.app (by simp[a5]) h1.symm h2 h3
theorem ZfR {α β:Type}(g:α→β)(f:α→α)(h:∀x,g (f x)=g x)(l:List α)(k:Nat):(l.modify k f).map g=l.map g:=by
 refine List.ext_getElem? fun i=>?_
 rw[List.getElem?_map,List.getElem?_map,List.getElem?_modify]
 cases l[i]? with
 | none=>rfl
 | some x=>by_cases e:k=i<;>simp[e,h]
theorem SI.pow {a0 Z:List Keyed}{lo k w:Nat}(h:SI L kd a0 lo Z st):SI L kd a0 lo Z (setPending st ((pendingOf st).modify k fun x=>(x.1,x.2.1,w))):=by
 obtain⟨a1,a2,a3,rs,a4,a5,a6⟩:=h
 refine⟨a1,a2,a3,rs,a4,a5,?_⟩
 show Pd L 0 ((pendingOf st).modify k _).toList _
 rw[Array.toList_modify]
 exact a6.pow (ZfR (fun t=>(t.1,t.2.1)) (fun x=>(x.1,x.2.1,w)) (fun _=>rfl) _ _).symm
theorem Zgp {a0:List Keyed}{Q:Unit→SortSt→Prop}(hC:CmpT L)(hP:PureC M A E s D L kd)(hd:∀u∈a0,D u)(hk:kindOf st=kd)(hf:failedOf st=none)(hpe:pendingOf st=#[])(ha:(arrOf st).toList=a0)
  (q:∀st',(arrOf st').toList.Perm a0→(arrOf st').toList.Pairwise (Le L)→failedOf st'=none→Q () st'):wpS M A E s sortRuns' Q st:=by
 rw[sortRuns'_eq]
 refine wpS_bind (wpS_get ?_)
 dsimp only
 obtain⟨N,hN⟩:∃N,N=(arrOf st).size:=⟨_,rfl⟩
 have hN':a0.length=N:=by rw[hN,←ha,Array.length_toList]
 rw[←hN]
 have hSI:SI L kd a0 0 a0 st:=⟨hk,hf,by rw[ha],[],by simpa using ha,rfl,by rw[hpe];trivial⟩
 refine wpS_bind (wpS_mono (wpS_forRange (a:=0) (b:=N) (I:=fun x c st'=>∃lo Z,c=(none,lo)∧SI L kd a0 lo Z st'∧x≤lo∧lo≤N)
  (Q:=fun c st'=>∃Z,c=(none,N)∧SI L kd a0 N Z st') ?step ?fin ⟨0,a0,rfl,hSI,by omega,by omega⟩) ?post)
 case fin=>
  rintro c st' ⟨lo,Z,rfl,hS,hx,hl⟩
  have:lo=N:=by omega
  subst this
  exact⟨Z,rfl,hS⟩
 case post=>
  rintro c st' ⟨Z,rfl,hS⟩
  have hZ:∀st',SI L kd a0 N Z st'→Z=[]:=by
   intro st' hS
   obtain⟨h1,h2,h3,rs,h4,h5,h6⟩:=hS
   have:=h3.length_eq
   rw[h4,List.length_append,h5,hN']at this
   exact List.length_eq_zero_iff.mp (by omega)
  dsimp only
  refine wpS_bind (wpS_mono (wpS_forRange (a:=0) (b:=N) (I:=fun x c st'=>c=(none,())∧SI L kd a0 N Z st'∧(pendingOf st').size+x≤N)
   (Q:=fun c st'=>c=(none,())∧SI L kd a0 N Z st'∧(pendingOf st').size≤1) ?s2 ?f2 ⟨rfl,hS,?_⟩) ?p2)
  case f2=>
   rintro c st' ⟨rfl,hS,hx⟩
   exact⟨rfl,hS,by omega⟩
  case p2=>
   rintro c st' ⟨rfl,hS,hx⟩
   obtain⟨h1,h2,h3,rs,h4,h5,h6⟩:=hS
   have:=hZ st' ⟨h1,h2,h3,rs,h4,h5,h6⟩
   subst this
   refine wpS_pure (q st' h3 ?_ h2)
   have hl:=h6.len
   rw[Array.length_toList]at hl
   rw[h4,List.append_nil]
   cases rs with
   | nil=>exact List.Pairwise.nil
   | cons r rs=>
    cases rs with
    | nil=>
     cases hps:(pendingOf st').toList with
     | nil=>rw[hps]at h6;exact h6.elim
     | cons t ps=>rw[hps]at h6;simpa using h6.2.2.2.1
    | cons r2 rs=>simp at hl;omega
  case s2=>
   rintro x c st' _ hx ⟨rfl,hS,hpx⟩
   refine wpS_bind (wpS_get ?_)
   by_cases hp1:(pendingOf st').size≤1
   ·rw[if_pos hp1]
    exact wpS_pure ⟨rfl,hS,hp1⟩
   ·rw[if_neg hp1]
    refine wpS_bind (hS.merge hC hP hd ?_ fun st2 hS2 hp2=>?_)
    ·have hle:∀(c:Prop) [Decidable c] (k:Nat),(if c then k-1 else k)≤k:=fun c _ k=>by split<;>omega
     exact Nat.lt_of_le_of_lt (Nat.succ_le_succ (hle _ _)) (by omega)
    ·exact wpS_pure ⟨rfl,hS2,by omega⟩
  ·obtain⟨h1,h2,h3,rs,h4,h5,h6⟩:=hS
   have:=h6.le
   rw[Array.length_toList]at this
   omega
 case step=>
  rintro x c st' _ hx ⟨lo,Z,rfl,hS,hxl,hl⟩
  dsimp only
  by_cases hlo:lo≥N
  ·rw[if_pos hlo]
   have:lo=N:=by omega
   subst this
   exact wpS_pure ⟨Z,rfl,hS⟩
  rw[if_neg hlo]
  obtain⟨h1,h2,h3,rs,h4,h5,h6⟩:=hS
  have hsz:(arrOf st').size=N:=by rw[←Array.length_toList,h3.length_eq,hN']
  have hda:∀u∈(arrOf st').toList,D u:=fun u hu=>hd u (h3.mem_iff.mp hu)
  refine wpS_bind (Eq.mp (congrArg (fun v=>wpS M A E s (countRun' lo (N-lo)) _ v) (show setArr st' (arrOf st')=st' from rfl)) (ZjC hC hP h1 hda (by omega) (by omega) fun b m hK hm1 hm2 hsm=>?_))
  dsimp only
  have hbz:=hK.sz
  by_cases hmr:m<minRun' N N 0
  ·rw[if_pos hmr]
   obtain⟨n,hn⟩:∃n,n=min (N-lo) (minRun' N N 0):=⟨_,rfl⟩
   rw[←hn]
   refine wpS_bind (wpS_lift (wpAny_rule ⟨rfl,?_⟩))
   refine wpS_bind (ZjF hC hP h1 (hK.d hda) (by omega) (by omega) hsm fun b2 hK2 hs2=>?_)
   rw[if_neg (by simp)]
   have hKb:=hK.tr hK2
   have hn1:1≤n:=by omega
   have hn2:n≤N-lo:=by omega
   have hbz2:=Kept.sz hKb
   have hb1:=Kept.pref hKb h4 h5
   obtain⟨R,hR⟩:∃R,R=(List.drop lo (Array.toList b2)).take n:=⟨_,rfl⟩
   obtain⟨Z2,hZ2⟩:∃Z2,Z2=(List.drop lo (Array.toList b2)).drop n:=⟨_,rfl⟩
   have hRZ:(List.drop lo (Array.toList b2))=R++Z2:=by rw[hR,hZ2,List.take_append_drop]
   have hRl:R.length=n:=by rw[hR,List.length_take,List.length_drop,Array.length_toList];omega
   have hRn:R≠[]:=by intro e;rw[e]at hRl;simp at hRl;omega
   have hRs:R.Pairwise (Le L):=by rw[hR];exact SegU.pw hs2
   have hS:SI L kd a0 lo (R++Z2) (setArr st' b2):=⟨h1,h2,(Array.perm_iff_toList_perm.mp (Kept.perm hKb)).trans h3,rs,by rw[←hRZ];exact hb1,h5,h6⟩
   refine wpS_bind (wpS_get ?_)
   cases hb:(pendingOf (setArr st' b2)).back? with
   | none=>
    dsimp only
    exact wpS_bind (wpS_modify (wpS_pure ⟨lo+n,Z2,rfl,hS.push hRl hRn hRs,by omega,by omega⟩))
   | some t=>
    obtain⟨s1,n1,p1⟩:=t
    dsimp only
    refine wpS_bind (wpS_mono (wpS_forRange (a:=0) (b:=N) (I:=fun y c st2=>c=(none,())∧SI L kd a0 lo (R++Z2) st2) (Q:=fun c st2=>c=(none,())∧SI L kd a0 lo (R++Z2) st2) ?_ (fun _ _ h=>h) ⟨rfl,hS⟩) ?_)
    ·rintro y c st2 _ _ ⟨hc,hS2⟩
     subst hc
     refine wpS_bind (wpS_get ?_)
     by_cases hp:(pendingOf st2).size>1
     ·rw[if_pos hp]
      obtain⟨t,ht⟩:∃t,(pendingOf st2)[(pendingOf st2).size-2]?=some t:=⟨_,getElem?_pos _ _ (by omega)⟩
      obtain⟨t1,t2,t3⟩:=t
      rw[ht]
      dsimp only
      split
      ·exact wpS_pure ⟨rfl,hS2⟩
      ·exact wpS_bind (hS2.merge hC hP hd (by omega) fun st3 hS3 _=>wpS_pure ⟨rfl,hS3⟩)
     ·rw[if_neg hp]
      exact wpS_pure ⟨rfl,hS2⟩
    ·rintro c st2 ⟨hc,hS2⟩
     subst hc
     exact wpS_bind (wpS_modify (wpS_bind (wpS_modify (wpS_pure ⟨lo+n,Z2,rfl,hS2.pow.push hRl hRn hRs,by omega,by omega⟩))))
  ·rw[if_neg hmr]
   have hKb:=hK
   have hbz2:=Kept.sz hKb
   have hb1:=Kept.pref hKb h4 h5
   obtain⟨R,hR⟩:∃R,R=(List.drop lo (Array.toList b)).take m:=⟨_,rfl⟩
   obtain⟨Z2,hZ2⟩:∃Z2,Z2=(List.drop lo (Array.toList b)).drop m:=⟨_,rfl⟩
   have hRZ:(List.drop lo (Array.toList b))=R++Z2:=by rw[hR,hZ2,List.take_append_drop]
   have hRl:R.length=m:=by rw[hR,List.length_take,List.length_drop,Array.length_toList];omega
   have hRn:R≠[]:=by intro e;rw[e]at hRl;simp at hRl;omega
   have hRs:R.Pairwise (Le L):=by rw[hR];exact SegU.pw hsm
   have hS:SI L kd a0 lo (R++Z2) (setArr st' b):=⟨h1,h2,(Array.perm_iff_toList_perm.mp (Kept.perm hKb)).trans h3,rs,by rw[←hRZ];exact hb1,h5,h6⟩
   refine wpS_bind (wpS_get ?_)
   cases hb:(pendingOf (setArr st' b)).back? with
   | none=>
    dsimp only
    exact wpS_bind (wpS_modify (wpS_pure ⟨lo+m,Z2,rfl,hS.push hRl hRn hRs,by omega,by omega⟩))
   | some t=>
    obtain⟨s1,n1,p1⟩:=t
    dsimp only
    refine wpS_bind (wpS_mono (wpS_forRange (a:=0) (b:=N) (I:=fun y c st2=>c=(none,())∧SI L kd a0 lo (R++Z2) st2) (Q:=fun c st2=>c=(none,())∧SI L kd a0 lo (R++Z2) st2) ?_ (fun _ _ h=>h) ⟨rfl,hS⟩) ?_)
    ·rintro y c st2 _ _ ⟨hc,hS2⟩
     subst hc
     refine wpS_bind (wpS_get ?_)
     by_cases hp:(pendingOf st2).size>1
     ·rw[if_pos hp]
      obtain⟨t,ht⟩:∃t,(pendingOf st2)[(pendingOf st2).size-2]?=some t:=⟨_,getElem?_pos _ _ (by omega)⟩
      obtain⟨t1,t2,t3⟩:=t
      rw[ht]
      dsimp only
      split
      ·exact wpS_pure ⟨rfl,hS2⟩
      ·exact wpS_bind (hS2.merge hC hP hd (by omega) fun st3 hS3 _=>wpS_pure ⟨rfl,hS3⟩)
     ·rw[if_neg hp]
      exact wpS_pure ⟨rfl,hS2⟩
    ·rintro c st2 ⟨hc,hS2⟩
     subst hc
     exact wpS_bind (wpS_modify (wpS_bind (wpS_modify (wpS_pure ⟨lo+m,Z2,rfl,hS2.pow.push hRl hRn hRs,by omega,by omega⟩))))
end
noncomputable def keyD (κ:KeyKind) (p:Keyed):κ.α:=(κ.keyOf p.1).getD κ.dflt
noncomputable def ltD (κ:KeyKind) (x y:Keyed):Bool:=κ.blt (keyD κ x) (keyD κ y)
theorem Zjl (κ:KeyKind):CmpT (ltD κ):=
 ⟨fun x y _ _ h=>KeyOrd.klt_asymm (O:=κ.toKeyOrd) h,fun x y z _ _ _ h1 h2=>KeyOrd.kle_trans (O:=κ.toKeyOrd) h1 h2⟩
section
variable {prog:Program}{w:World}{A:Around}{E:Value→Shared→Prop}{s:Shared}{κ:KeyKind}
theorem ZhZ (hO:κ.OneLt):PureC (model prog w) A E s (fun p=>∃a,κ.keyOf p.1=some a) (ltD κ) oneType':=by
 rintro st ⟨x,p⟩ ⟨y,r⟩ Q hk ⟨a,ha⟩ ⟨b,hb⟩ q
 have e:ltD κ (x,p) (y,r)=κ.blt a b:=by unfold ltD keyD;rw[ha,hb];rfl
 rw[e]at q
 rw[lt'_eq]
 refine wpS_bind (wpS_get ?_)
 rw[hk,keyLt'_oneType]
 exact wpS_bind (wpS_lift (wpAny_attempt (hO prog w A _ s x y a b ha hb ⟨rfl,wpS_pure q⟩)))
theorem Zhx {a0:Array Keyed}{st:SortSt}{Q:Unit→SortSt→Prop}(hO:κ.OneLt)(h0:KeysOf κ a0)(hk:kindOf st=oneType')(hf:failedOf st=none)(hp:pendingOf st=#[])(ha:arrOf st=a0)
  (q:∀st',(arrOf st').Perm a0→failedOf st'=none→SortedToK κ (arrOf st') a0.size→Q () st'):wpS (model prog w) A E s sortRuns' Q st:=by
 refine Zgp (a0:=a0.toList) (Zjl κ) (ZhZ hO) h0 hk hf hp (by rw[ha]) fun st' p1 p2 p3=>q st' (Array.perm_iff_toList_perm.mpr p1) p3 ?_
 have hsz:(arrOf st').size=a0.size:=by rw[←Array.length_toList,p1.length_eq,Array.length_toList]
 intro i j hij hj
 have hK:∀k (hk:k<(arrOf st').size),KK κ (arrOf st') k=keyD κ ((arrOf st').toList[k]'(by simpa using hk)):=by
  intro k hk
  unfold KK keyD
  rw[getElem?_pos _ k hk];rfl
 rw[hK i (by omega),hK j (by omega)]
 by_cases e:i=j
 ·subst e;exact KeyOrd.kle_refl _
 ·exact List.pairwise_iff_getElem.mp p2 i j (by simp;omega) (by simp;omega) (by omega)
end
section
variable {prog:Program}{w:World}{A:Around}{E:Value→Shared→Prop}{s:Shared}{κ:KeyKind}
theorem Zhw (hO:κ.OneLt) {a:Addr} {vs:List Value} {n:Nat} {P:Fin→Shared→Prop} (ho:s.heap.get? a=some (seqObj "list" vs.toArray n))
  (h0:KeysOf κ (pairsOf vs)) (hkk:∀x y r,vs=x::y::r→keyKind' (x::y::r).toArray=pure oneType') (hN:vs.length≤sizeLine)
  (h:∀v:SortSt,(arrOf v).Perm (pairsOf vs)→SortedToK κ (arrOf v) (pairsOf vs).size→P (.done (.ret .none)) { s with heap:=sortedHeap s.heap a vs ((arrOf v).map (·.2)) }):
  wpAny (model prog w) A (Builtin.«list.sort» ⟨[.ref a],[]⟩) P E s:=by
 by_cases h64:vs.length<64
 ·exact list_sort_treeK hO ho h0 hkk h64 h
 obtain⟨x,y,r,hv⟩:∃x y r,vs=x::y::r:=by
  match vs,h64 with
  | x::y::r,_=>exact⟨x,y,r,rfl⟩
  | [x],h=>simp at h
  | [],h=>simp at h
 have h2:¬vs.toArray.size<2:=by rw[List.size_toArray];omega
 have hlt:a<s.heap.objs.size:=Heap.lt_size ho
 have up:=get?_update_seq ho (fun _=>#[])
 generalize hep:(if (#[]:Array Value).size == vs.toArray.size then n else n+1)=ep at up
 have up3:(((s.heap.update a (Obj.mapSeq fun _=>#[])).push (seqObj "tuple" vs.toArray 0)).push (seqObj "list" #[] 0)).get? a=some (seqObj "list" #[] ep):=by
  rw[Heap.get?_push_ne,Heap.get?_push_ne]
  ·exact up
  ·rw[Heap.size_update];exact Nat.ne_of_lt hlt
  ·rw[size_push',Heap.size_update];exact Nat.ne_of_lt (Nat.lt_succ_of_lt hlt)
 rw[list_sort_plain]
 refine wpAny_bind (listItems_at ho rfl (wpAny_bind (listUpdate_at ho rfl (wpAny_bind (seqEpoch_at up rfl (wpAny_bind (wpAny_newTuple (wpAny_bind (wpAny_newList (wpAny_holding ?_)))))) ) (hsz:=by rw[List.size_toArray];exact hN))))
 dsimp only
 rw[if_neg h2,if_neg h2]
 have hk1:keyKind' vs.toArray=pure oneType':=by rw[hv];exact hkk x y r hv
 rw[hk1]
 refine wpAny_bind (wpAny_pure (wpAny_bind (wpAny_mono (Zhx hO h0 (st:=SortSt.mk' oneType' (pairsOf vs) #[] 7 none) (Q:=fun _ v=>(arrOf v).Perm (pairsOf vs)∧failedOf v=none∧SortedToK κ (arrOf v) (pairsOf vs).size) rfl rfl rfl rfl fun v p1 p2 p3=>⟨p1,p2,p3⟩) ?_ fun _ _ e=>e)))
 rintro⟨⟨⟩,v⟩ s2 ⟨rfl,p1,p2,p3⟩
 dsimp only
 refine wpAny_bind (seqEpoch_at up3 rfl (wpAny_bind (listUpdate_at up3 rfl ?_ (hsz2:=?_))))
 ·rw[p2,bne_self_eq_false]
  exact wpAny_pure (h v p1 p3)
 ·rw[Array.size_map,p1.size_eq,pairsOf_size];omega
end
section
variable {prog:Program}{w:World}{A:Around}{E:Value→Shared→Prop}{s:Shared}
theorem ZfG {vs:List Value}{ms:List (List Nat)}{Q:Value→Shared→Prop}(hv:Vals (ms.map tx) vs)(h64:ms.length≤sizeLine)
  (h:∀(h':Heap) (us:List Value) (e:Nat),(∀b o,s.heap.get? b=some o→h'.get? b=some o)→h'.get? s.heap.objs.size=some { cls:=.type "list",data:=.seq us.toArray e }→Vals ((Zbk ms).map tx) us→Q (.ref s.heap.objs.size) { s with heap:=h' }):
  wpAny (model prog w) A (do let l ←newList vs;let _ ←holding [l] (call (.builtin "list.sort") [l] []);ret l) (fun fin s'=>∃v,fin=Fin.done (Flow.ret v)∧Q v s') E s:=by
 have hS:=ZdJ hv
 have hlen:vs.length≤sizeLine:=by rw[←hv.length,List.length_map];exact h64
 refine wpAny_bind (wpAny_newList ?_ ?_)
 ·have hoL:(s.heap.push (seqObj "list" vs.toArray 0)).get? s.heap.objs.size=some (seqObj "list" vs.toArray 0):=Heap.get?_push_size _ rfl
  refine wpAny_bind (wpAny_holding (wpAny_call_entry slot_list_sort ⟨_,hoL,rfl⟩ entry_list_sort (Zhw strKind_oneLt hoL hS.keysOf (fun v₁ v₂ rest e=>keyKind_strs (by rw[←e];exact hS)) hlen fun st' a1 a2=>⟨_,rfl,?_⟩) (args_list_sort _)))
  obtain⟨ss',b1,b2,b3⟩:=sorted_out_str hS a1 a2
  obtain⟨e,he⟩:=sortedHeap_at (out:=(arrOf st').map (·.2)) hoL
  refine wpAny_pure ⟨_,rfl,h _ ((arrOf st').map (·.2)).toList e (fun b o q=>?_) ?_ ?_⟩
  ·have hlt:=Heap.lt_size q
   have hlt':b<(s.heap.push (seqObj "list" vs.toArray 0)).objs.size:=by rw[Heap.size_push];exact Nat.lt_succ_of_lt hlt
   exact(sortedHeap_old (Nat.ne_of_lt hlt) hlt').trans (Heap.get?_push_of_some _ q)
  ·have q:((arrOf st').map (·.2)).toList.toArray=(arrOf st').map (·.2):=Array.toArray_toList
   rw[q];exact he
  ·have p1:(ss'.map fun x=>x.cps.toList).Perm ms:=by
    have:=b2.map (fun x:Str=>x.cps.toList)
    rwa [Zfw]at this
   have e1:=Zbz p1 (ZbK b3)
   rw[←e1]
   exact Zeu b1
 ·exact hlen
end
section
variable {X:Cx}{e:Expr}{ta:TA}{p p2 pos kpos:Pos}
theorem ZbT (hc:X.calm=true):Zb5 X (.builtin "sorted") (fun xs H Q=>∃a ls,xs=[.ref a]∧H a=some (.lst (ls.map tx))∧ls.length≤sizeLine∧NewL ((Zbk ls).map tx) H Q):=by
 rintro pins s σ H xs us Q I r ⟨a,ls,rfl,ha,h64,q⟩
 obtain⟨u,rfl,ru⟩:=r.one
 cases ru
 obtain⟨_,its,n,r2,hlen,eo⟩:=I.lstM ha
 have hl:(Zbk ls).length≤sizeLine:=by rw[(ZaI ls).length_eq];exact h64
 have li:its.length=ls.length:=by rw[←r2.length,List.length_map]
 refine Calls.call_function_entry kind_sorted plain_sorted entry_sorted (args_sorted1 _) ?_
 unfold Builtin.«sorted»
 refine wpAny_bind (m:=checkCount "sorted" 1 1 _) (wpAny_pure ?_)
 refine wpAny_bind (collect_list (PySem.IsL.isList eo) ?_ (by rw[li];exact h64))
 have sb:=Heap.SameBut.update (s.heap.push (seqObj "list" #[] 0)) s.heap.objs.size (Obj.mapSeq (·++its.toArray))
 have k1:∀b o,s.heap.get? b=some o→((s.heap.push (seqObj "list" #[] 0)).update s.heap.objs.size (Obj.mapSeq (·++its.toArray))).get? b=some o:=fun b o e=>(sb.2 b (Nat.ne_of_lt (Heap.lt_size e))).trans (Heap.get?_push_of_some _ e)
 refine ZfG (s:={ s with heap:=(s.heap.push (seqObj "list" #[] 0)).update s.heap.objs.size (Obj.mapSeq (·++its.toArray)) }) r2 h64 fun h' us e k2 he rr=>?_
 generalize ((s.heap.push (seqObj "list" #[] 0)).update s.heap.objs.size (Obj.mapSeq (·++its.toArray)))=g at k1 k2 he ⊢
 have nw:s.heap.get? g.objs.size=none:=by
  cases z:s.heap.get? g.objs.size with
  | none=>rfl
  | some o=>exact absurd (Heap.lt_size (k1 _ _ z)) (Nat.lt_irrefl _)
 exact⟨.ref g.objs.size,_,I.laid2 (s':={ s with heap:=h' }) (o:=.lst ((Zbk ls).map tx)) rfl rfl (fun b o z=>k2 b o (k1 b o z)) nw ⟨by rw[List.length_map];exact hl,us,e,rr,he⟩,rfl,q _ (I.hok.none_of nw)⟩
end
theorem Zd4 (b:Bool)(x y:Value):keyLt' (tuples' b) x y=(do
  let xs ←Builtin.List.listItems x
  let ys ←Builtin.List.listItems y
  for ((p,r),i) in (xs.toList.zip ys.toList).zipIdx do
   if !(←eqBool p r) then return ←oneLt' (b&&i == 0) p r
  return xs.size<ys.size):=rfl
noncomputable def keyT (h:Heap):Value→Int×List Nat
 | .ref a=>match h.get? a with
  | some o=>match o.data with
   | .seq xs _=>match xs.toList with
    | [.int n _,.str w _]=>(n,w.cps.toList)
    | _=>(0,[])
   | _=>(0,[])
  | none=>(0,[])
 | _=>(0,[])
noncomputable def ltP (a b:Int×List Nat):Bool:=decide (a.1<b.1) || (a.1 == b.1&&decide (a.2<b.2))
noncomputable def ltT (h:Heap) (x y:Keyed):Bool:=ltP (keyT h x.1) (keyT h y.1)
theorem ZeE {a b:Int×List Nat}:ltP a b=true↔a.1<b.1∨(a.1=b.1∧a.2<b.2):=by
 unfold ltP;simp
theorem ZgN {a b:Int×List Nat}:ltP b a=false↔a.1<b.1∨(a.1=b.1∧¬b.2<a.2):=by
 rw[←Bool.not_eq_true,ZeE]
 constructor
 ·intro h
  by_cases e:a.1=b.1
  ·exact .inr ⟨e,fun k=>h (.inr ⟨e.symm,k⟩)⟩
  ·exact .inl (by
    have:¬b.1<a.1:=fun k=>h (.inl k)
    omega)
 ·rintro (h | ⟨h,k⟩) (l | ⟨l,m⟩)
  ·omega
  ·omega
  ·omega
  ·exact k m
theorem Zjj (h:Heap):CmpT (ltT h):=by
 refine⟨fun x y _ _ e=>?_,fun x y z _ _ _ e f=>?_⟩
 ·unfold ltT at e ⊢
  rw[ZeE]at e
  rw[ZgN]
  rcases e with e | ⟨e,f⟩
  ·exact .inl e
  ·exact .inr ⟨e,List.lt_asymm f⟩
 ·unfold ltT at e f ⊢
  rw[ZgN]at e f ⊢
  rcases e with e | ⟨e,e2⟩<;>rcases f with f | ⟨f,f2⟩
  ·exact .inl (by omega)
  ·exact .inl (by omega)
  ·exact .inl (by omega)
  ·exact .inr ⟨by omega,List.not_lt.mpr (List.le_trans (List.not_lt.mp e2) (List.not_lt.mp f2))⟩
noncomputable def IsT (h:Heap) (v:Value) (n:Int) (c:List Nat):Prop:=∃a t w u e,v=.ref a∧h.get? a=some (seqObj "tuple" #[.int n t,.str w u] e)∧w.cps.toList=c
theorem IsT.key {h:Heap}{v:Value}{n:Int}{c:List Nat}(k:IsT h v n c):keyT h v=(n,c):=by
 obtain⟨a,t,w,u,e,rfl,ho,rfl⟩:=k
 unfold keyT;dsimp only;rw[ho]
section
variable {prog:Program}{w:World}{A:Around}{E:Value→Shared→Prop}{s:Shared}
theorem ZfP {a b:Str}{t u:Tok}{Q:Bool→Shared→Prop}(h:Q (decide (a.cps.toList<b.cps.toList)) s):wpAny (model prog w) A (oneLt' false (.str a t) (.str b u)) Q E s:=by
 rw[oneLt'_eq]
 simp only[Bool.false_eq_true,if_false]
 refine wpAny_bind (wpAny_richCompare_same (typeIs_str s a t) (typeIs_str s b u) slot_str_lt (call_str_lt ⟨(fun z=>nomatch z),?_⟩))
 exact wpAny_truthy_bool h
theorem ZhY:PureC (model prog w) A E s (fun p=>∃n c,IsT s.heap p.1 n c) (ltT s.heap) (tuples' true):=by
 rintro st ⟨x,p⟩ ⟨y,r⟩ Q hk ⟨n,c,hx⟩ ⟨m,d,hy⟩ q
 have e:ltT s.heap (x,p) (y,r)=ltP (n,c) (m,d):=by unfold ltT;rw[hx.key,hy.key]
 rw[e]at q
 obtain⟨a,t,v,u,ep,rfl,ho,rfl⟩:=hx
 obtain⟨b,t2,v2,u2,ep2,rfl,ho2,rfl⟩:=hy
 rw[lt'_eq]
 refine wpS_bind (wpS_get ?_)
 rw[hk,Zd4]
 refine wpS_bind (wpS_lift (wpAny_attempt (wpAny_bind (listItems_at ho rfl (wpAny_bind (listItems_at ho2 rfl ?_))))))
 show wpAny _ _ (forIn [((Value.int n t,Value.int m t2),0),((Value.str v u,Value.str v2 u2),1)] _ _ >>= _) _ _ _
 rw[List.forIn_cons]
 refine wpAny_bind (wpAny_bind (wpAny_bind (wpAny_eqBool_int ?_)))
 by_cases hnm:n=m
 ·subst hnm
  rw[if_neg (by simp)]
  refine wpAny_pure ?_
  dsimp only
  rw[List.forIn_cons]
  refine wpAny_bind (wpAny_bind (eqBool_str ?_))
  by_cases hv:v=v2
  ·subst hv
   rw[if_neg (by simp)]
   refine wpAny_pure ?_
   dsimp only
   rw[List.forIn_nil]
   refine wpAny_pure ?_
   dsimp only
   refine wpAny_pure ⟨rfl,wpS_pure ?_⟩
   have:ltP (n,v.cps.toList) (n,v.cps.toList)=false:=by unfold ltP;simp[List.lt_irrefl]
   rw[this]at q
   simpa using q
  ·rw[if_pos (by simpa using hv)]
   refine wpAny_bind (ZfP (wpAny_pure (wpAny_pure ?_)))
   dsimp only
   refine wpAny_pure ⟨rfl,wpS_pure ?_⟩
   have:ltP (n,v.cps.toList) (n,v2.cps.toList)=decide (v.cps.toList<v2.cps.toList):=by unfold ltP;simp
   rw[this]at q
   exact q
 ·rw[if_pos (by simpa using hnm)]
  refine wpAny_bind (oneLt_int (wpAny_pure (wpAny_pure ?_)))
  dsimp only
  refine wpAny_pure ⟨rfl,wpS_pure ?_⟩
  have:ltP (n,v.cps.toList) (m,v2.cps.toList)=decide (n<m):=by unfold ltP;simp[hnm]
  rw[this]at q
  exact q
end
section
variable {prog:Program}{w:World}{A:Around}{E:Value→Shared→Prop}{s:Shared}
theorem ZbF:∀ {vs:List Value} {Q:List (Option Value)→Shared→Prop},(∀v∈vs,∃n c,IsT s.heap v n c) →
  (∀us:List Value,us.length=vs.length→(∀u∈us,∃n t,u=.int n t)→Q (us.map some) s)→wpAny (model prog w) A (vs.mapM firstOfTuple') Q E s
 | [],Q,_,q=>by rw[List.mapM_nil];exact wpAny_pure (q [] rfl (by simp))
 | v::vs,Q,h,q=>by
  obtain⟨n,c,a,t,x,u,e,rfl,ho,rfl⟩:=h v (by simp)
  rw[List.mapM_cons]
  refine wpAny_bind ?_
  show wpAny _ _ (do
   if (←typeOf (.ref a)) != .type "tuple" then return none
   return (←Builtin.List.listItems (.ref a))[0]?) _ _ _
  refine wpAny_bind (wpAny_typeOf_ref ho ?_)
  rw[if_neg (show ¬((Value.type "tuple" != Value.type "tuple")=true) by decide)]
  refine wpAny_bind (listItems_at ho rfl (wpAny_pure ?_))
  refine wpAny_bind (ZbF (fun v hv=>h v (by simp[hv])) fun us hl hu=>wpAny_pure ?_)
  refine q (.int n t::us) (by simp[hl]) fun u hu'=>?_
  rcases List.mem_cons.mp hu' with rfl | hu'
  ·exact⟨n,t,rfl⟩
  ·exact hu u hu'
theorem ZeH {vs:List Value}{Q:SortKind→Shared→Prop}(hv:∀v∈vs,∃n c,IsT s.heap v n c)(hne:vs≠[])(q:Q (tuples' true) s):wpAny (model prog w) A (keyKind' vs.toArray) Q E s:=by
 rw[keyKind'_eq,List.mapM_toArray,map_eq_pure_bind,bind_assoc]
 refine wpAny_bind (ZbF hv fun us hl hu=>?_)
 rw[pure_bind,if_pos (by simp)]
 refine wpAny_bind (wpAny_rule ?_)
 have hI:IntsAre us (us.map numOf):=intsAre_map us hu
 have e1:((us.map some).toArray.filterMap id)=us.toArray:=by simp
 rw[e1,oneTypeOnly'_eq,List.mapM_toArray,mapM_typeOf_ints hI]
 cases us with
 | nil=>
  cases vs with
  | nil=>exact absurd rfl hne
  | cons v vs=>simp at hl
 | cons u us=>
  simp only[map_pure,pure_bind]
  have h0:(List.map (fun _=>Value.type "int") (u::us)).toArray[0]?=some (Value.type "int"):=by simp
  have hall:((List.map (fun _=>Value.type "int") (u::us)).toArray.all fun z=>z == Value.type "int")=true:=by
   rw[List.all_toArray,List.all_map,List.all_eq_true]
   exact fun _ _=>rfl
  rw[h0]
  simp only[hall,if_true,pure_bind]
  exact wpAny_pure q
end
theorem ZfI (a g:Addr):Builtin.«list.sort» ⟨[.ref a],[(Str.ofString "key",.ref g)]⟩=(do
  let its ←Builtin.List.listItems (.ref a)
  Builtin.List.listUpdate (.ref a) fun _=>#[]
  let be ←seqEpoch a
  let hd ←newTuple its.toList
  let ks ←newList []
  holding [hd,ks] do
   rule "list.sort.key"
   for x in its do
    match ←(call (.ref g) [x]).attempt with
    | .ok k=>Builtin.List.listUpdate ks (·.push k)
    | .error e=>
     rule "list.sort.key-raised"
     let md ←Builtin.List.listItems ks
     Builtin.List.listUpdate ks fun _=>#[]
     letGo md.toList.reverse [e]
     Builtin.List.listUpdate (.ref a) fun _=>its
     throw e
   let kys ←Builtin.List.listItems ks
   let kind ←if its.size<2 then pure general' else keyKind' kys
   let ((),v) ←(if its.size<2 then pure () else sortRuns').run (SortSt.mk' kind (kys.zip its) #[] 7 none)
   Builtin.List.listUpdate ks fun _=>#[]
   letGo ((arrOf v).map (·.1)).toList (failedOf v).toList
   let tch:=(←seqEpoch a) != be
   Builtin.List.listUpdate (.ref a) fun _=>(arrOf v).map (·.2)
   if let some e:=failedOf v then rule "list.sort.comparison-raised";throw e
   if tch then rule "list.sort.modified";raiseError "ValueError" "list modified during sort"
   ret .none):=rfl
noncomputable def Kp (h g:Heap):Prop:=∀b o,h.get? b=some o→g.get? b=some o
noncomputable def KeyCall (M:Model) (A:Around) (g:Addr) (vs:List Value) (kf:Value→Int×List Nat) (s:Shared):Prop:=
 ∀(E:Value→Shared→Prop) (s':Shared) (v:Value) (Q:Value→Shared→Prop),v∈vs→Kp s.heap s'.heap→s'.gens=s.gens→s'.os=s.os →
  (∀(s2:Shared) (k:Value),Kp s'.heap s2.heap→s2.gens=s'.gens→s2.os=s'.os→IsT s2.heap k (kf v).1 (kf v).2→Q k s2)→wpAny M A (call (.ref g) [v]) Q E s'
theorem IsT.kp {h g:Heap}{v:Value}{n:Int}{c:List Nat}(k:IsT h v n c)(q:Kp h g):IsT g v n c:=by
 obtain⟨a,t,w,u,e,h1,h2,h3⟩:=k
 exact⟨a,t,w,u,e,h1,q _ _ h2,h3⟩
theorem IsT.up {h:Heap} {v:Value} {n:Int} {c:List Nat} {K:Addr} {xs:Array Value} {m:Nat} {f:Obj→Obj} (k:IsT h v n c) (hK:h.get? K=some (seqObj "list" xs m)):IsT (h.update K f) v n c:=by
 obtain⟨a,t,w,u,e,h1,h2,h3⟩:=k
 refine⟨a,t,w,u,e,h1,?_,h3⟩
 rw[(Heap.SameBut.update h K f).2 a ?_]
 ·exact h2
 ·rintro rfl
  rw[h2]at hK
  have:=congrArg Obj.cls (Option.some.inj hK)
  exact absurd (show Value.type "tuple"=Value.type "list" from this) (by decide)
noncomputable def KeysAre (h:Heap) (kf:Value→Int×List Nat) (ks vs:List Value):Prop:=ks.length=vs.length∧∀(i:Nat) (k v:Value),ks[i]?=some k→vs[i]?=some v→IsT h k (kf v).1 (kf v).2
section
variable {prog:Program}{w:World}{A:Around}{E:Value→Shared→Prop}{s:Shared}
theorem ZgT {g K a:Addr}{vs:List Value}{kf:Value→Int×List Nat}{oa:Obj}{Q:PUnit→Shared→Prop}{er:Value→Sem (ForInStep PUnit)}(hc:KeyCall (model prog w) A g vs kf s)(hK0:s.heap.get? K=none)(ha0:a≠K)(hN:vs.length≤sizeLine)
  (q:∀(s2:Shared) ks n,Kp s.heap s2.heap→s2.gens=s.gens→s2.os=s.os→s2.heap.get? K=some (seqObj "list" ks.toArray n)→KeysAre s2.heap kf ks vs→s2.heap.get? a=some oa→Q ⟨⟩ s2):
  ∀(l dn ks:List Value) (s':Shared) (n:Nat),vs=dn++l→Kp s.heap s'.heap→s'.gens=s.gens→s'.os=s.os→s'.heap.get? K=some (seqObj "list" ks.toArray n)→KeysAre s'.heap kf ks dn→s'.heap.get? a=some oa →
   wpAny (model prog w) A (forIn l PUnit.unit fun x _=>do
    match ←(call (.ref g) [x]).attempt with
    | .ok k=>do
     Builtin.List.listUpdate (.ref K) (·.push k)
     pure (ForInStep.yield PUnit.unit)
    | .error e=>er e) Q E s'
 | [],dn,ks,s',n,hv,h1,h2,h3,h4,h5,h6=>by
  rw[List.append_nil]at hv
  subst hv
  rw[List.forIn_nil]
  exact wpAny_pure (q s' ks n h1 h2 h3 h4 h5 h6)
 | x::l,dn,ks,s',n,hv,h1,h2,h3,h4,h5,h6=>by
  rw[List.forIn_cons]
  refine wpAny_bind (wpAny_bind (wpAny_attempt (hc _ s' x _ (by rw[hv];simp) h1 h2 h3 fun s2 k k1 k2 k3 k4=>?_)))
  have hlen:ks.length<vs.length:=by rw[h5.1,hv];simp
  have hK2:=k1 _ _ h4
  refine wpAny_bind (listUpdate_at hK2 rfl (wpAny_pure ?_) (hsz:=by rw[List.size_toArray];omega) (hsz2:=by rw[Array.size_push,List.size_toArray];omega))
  dsimp only
  have sb:=Heap.SameBut.update s2.heap K (Obj.mapSeq fun z=>z.push k)
  refine ZgT hc hK0 ha0 hN q l (dn++[x]) (ks++[k]) _ _ (by rw[hv];simp) ?_ (k2.trans h2) (k3.trans h3) (by
   have:=get?_update_seq hK2 (fun z=>z.push k)
   rw[List.push_toArray]at this
   exact this) ?_ ?_
  ·intro b o hb
   refine(sb.2 b ?_).trans (k1 b o (h1 b o hb))
   rintro rfl
   rw[hK0]at hb;cases hb
  ·refine⟨by simp[h5.1],fun i k' v' e1 e2=>?_⟩
   by_cases hi:i<ks.length
   ·rw[List.getElem?_append_left hi]at e1
    rw[List.getElem?_append_left (by rw[←h5.1];exact hi)]at e2
    exact((h5.2 i k' v' e1 e2).kp k1).up hK2
   ·have hi2:i=ks.length:=by
     have:=(List.getElem?_eq_some_iff.mp e1).1
     simp at this;omega
    subst hi2
    rw[List.getElem?_append_right (Nat.le_refl _),Nat.sub_self]at e1
    rw[h5.1,List.getElem?_append_right (Nat.le_refl _),Nat.sub_self]at e2
    cases e1;cases e2
    exact k4.up hK2
  ·exact(sb.2 a ha0).trans (k1 a oa h6)
end
section
variable {prog:Program}{w:World}{A:Around}{E:Value→Shared→Prop}{s s0:Shared}
theorem Zeo {h:Heap}{kf:Value→Int×List Nat}{ks vs:List Value}(hk:KeysAre h kf ks vs){p:Keyed}(hp:p∈ks.zip vs):keyT h p.1=kf p.2∧∃n c,IsT h p.1 n c:=by
 obtain⟨i,hi,rfl⟩:=List.getElem_of_mem hp
 rw[List.length_zip]at hi
 have h1:i<ks.length:=by omega
 have h2:i<vs.length:=by omega
 have:=hk.2 i ks[i] vs[i] (List.getElem?_eq_getElem h1) (List.getElem?_eq_getElem h2)
 rw[List.getElem_zip]
 exact⟨this.key,_,_,this⟩
theorem ZfH {a g:Addr}{vs:List Value}{kf:Value→Int×List Nat}{n:Nat}{P:Fin→Shared→Prop}(hc:KeyCall (model prog w) A g vs kf s0)(hb:Kp s0.heap s.heap)(hg:s.gens=s0.gens)(hos:s.os=s0.os)(ha0:s0.heap.get? a=none)
  (ho:s.heap.get? a=some (seqObj "list" vs.toArray n)) (hN:vs.length≤sizeLine)
  (h:∀(s':Shared) (us:List Value) (e:Nat),Kp s0.heap s'.heap→s'.gens=s0.gens→s'.os=s0.os→s'.heap.get? a=some (seqObj "list" us.toArray e)→us.Perm vs→us.Pairwise (fun x y=>ltP (kf y) (kf x)=false)→P (.done (.ret .none)) s'):
  wpAny (model prog w) A (Builtin.«list.sort» ⟨[.ref a],[(Str.ofString "key",.ref g)]⟩) P E s:=by
 have hlt:a<s.heap.objs.size:=Heap.lt_size ho
 have up:=get?_update_seq ho (fun _=>#[])
 generalize hep:(if (#[]:Array Value).size == vs.toArray.size then n else n+1)=ep at up
 obtain⟨h1,hh1⟩:∃h1,h1=s.heap.update a (Obj.mapSeq fun _=>#[]):=⟨_,rfl⟩
 have k1:Kp s0.heap h1:=by
  intro b o q
  rw[hh1,(Heap.SameBut.update s.heap a _).2 b ?_]
  ·exact hb b o q
  ·rintro rfl;rw[ha0]at q;cases q
 rw[←hh1]at up
 obtain⟨K,hK⟩:∃K,K=(h1.push (seqObj "tuple" vs.toArray 0)).objs.size:=⟨_,rfl⟩
 obtain⟨h3,hh3⟩:∃h3,h3=(h1.push (seqObj "tuple" vs.toArray 0)).push (seqObj "list" #[] 0):=⟨_,rfl⟩
 have k3:Kp h1 h3:=fun b o q=>by rw[hh3];exact Heap.get?_push_of_some _ (Heap.get?_push_of_some _ q)
 have oK:h3.get? K=some (seqObj "list" #[] 0):=by rw[hh3,hK];exact Heap.get?_push_size _ rfl
 have nK:s0.heap.get? K=none:=by
  cases z:s0.heap.get? K with
  | none=>rfl
  | some o=>
   have:=Heap.lt_size (k1 _ _ z)
   rw[hK,size_push']at this
   exact absurd this (Nat.not_lt.mpr (Nat.le_succ _))
 have aK:a≠K:=by
  rintro rfl
  have h8:=Heap.lt_size up
  rw[hK,size_push']at h8
  exact absurd h8 (Nat.not_lt.mpr (Nat.le_succ _))
 subst hK
 rw[ZfI]
 refine wpAny_bind (listItems_at ho rfl (wpAny_bind (listUpdate_at ho rfl ?_ (hsz:=by rw[List.size_toArray];exact hN))))
 rw[←hh1]
 refine wpAny_bind (seqEpoch_at up rfl (wpAny_bind (wpAny_newTuple (wpAny_bind (wpAny_newList (wpAny_holding ?_))))))
 refine wpAny_bind (wpAny_rule ?_)
 rw[List.forIn_toArray]
 show wpAny _ _ _ _ _ { s with heap:=(h1.push (seqObj "tuple" vs.toArray 0)).push (seqObj "list" #[] 0) }
 rw[←hh3]
 refine wpAny_bind (ZgT hc nK aK hN ?_ vs [] [] { s with heap:=h3 } 0 rfl (fun b o q=>k3 b o (k1 b o q)) hg hos oK ⟨rfl,fun i k v e _=>by simp at e⟩ (k3 a _ up))
 intro s2 ks m j1 j2 j3 j4 j5 j6
 dsimp only
 refine wpAny_bind (listItems_at j4 rfl ?_)
 have fin:∀v:SortSt,failedOf v=none→((arrOf v).map (·.2)).toList.Perm vs→((arrOf v).map (·.2)).toList.Pairwise (fun x y=>ltP (kf y) (kf x)=false) →
   wpAny (model prog w) A (do
    Builtin.List.listUpdate (.ref (h1.push (seqObj "tuple" vs.toArray 0)).objs.size) fun _=>#[]
    letGo ((arrOf v).map (·.1)).toList (failedOf v).toList
    let tch:=(←seqEpoch a) != ep
    Builtin.List.listUpdate (.ref a) fun _=>(arrOf v).map (·.2)
    if let some e:=failedOf v then rule "list.sort.comparison-raised";throw e
    if tch then rule "list.sort.modified";raiseError "ValueError" "list modified during sort"
    ret .none) P E s2:=by
  intro v f1 f2 f3
  have hl:=j5.1
  refine wpAny_bind (listUpdate_at j4 rfl (wpAny_bind (wpAny_letGo ?_)) (hsz:=by rw[List.size_toArray];omega))
  have sb:=Heap.SameBut.update s2.heap (h1.push (seqObj "tuple" vs.toArray 0)).objs.size (Obj.mapSeq fun _=>#[])
  have a1:(s2.heap.update (h1.push (seqObj "tuple" vs.toArray 0)).objs.size (Obj.mapSeq fun _=>#[])).get? a=some (seqObj "list" #[] ep):=(sb.2 a aK).trans j6
  refine wpAny_bind (seqEpoch_at a1 rfl (wpAny_bind (listUpdate_at a1 rfl ?_ (hsz2:=by
   have:=f2.length_eq
   rw[Array.length_toList]at this
   omega))))
  rw[f1,bne_self_eq_false]
  obtain⟨out,hout⟩:∃out,out=(arrOf v).map (·.2):=⟨_,rfl⟩
  rw[←hout]at f2 f3 ⊢
  have a2:=get?_update_seq a1 (fun _=>out)
  generalize (if out.size == (#[]:Array Value).size then ep else ep+1)=e5 at a2
  have e3:out.toList.toArray=out:=Array.toArray_toList
  refine wpAny_pure (h _ out.toList e5 ?_ j2 j3 (by rw[e3];exact a2) f2 f3)
  intro b o q
  refine((Heap.SameBut.update _ a _).2 b ?_).trans ((sb.2 b ?_).trans (j1 b o q))
  ·rintro rfl;rw[ha0]at q;cases q
  ·rintro rfl;rw[nK]at q;cases q
 have zs:(ks.toArray.zip vs.toArray)=(ks.zip vs).toArray:=by simp
 have zm:((ks.zip vs).map (·.2))=vs:=List.map_snd_zip (by rw[j5.1];exact Nat.le_refl _)
 by_cases h2:vs.toArray.size<2
 ·rw[if_pos h2,if_pos h2]
  refine wpAny_bind (wpAny_pure ?_)
  rw[StateT.run_pure]
  refine wpAny_bind (wpAny_pure ?_)
  refine fin (SortSt.mk' general' (ks.toArray.zip vs.toArray) #[] 7 none) rfl ?_ ?_
  ·show ((ks.toArray.zip vs.toArray).map (·.2)).toList.Perm vs
   rw[zs,Array.toList_map,zm]
  ·show ((ks.toArray.zip vs.toArray).map (·.2)).toList.Pairwise _
   rw[zs,Array.toList_map,zm]
   match vs,h2 with
   | [],_=>exact List.Pairwise.nil
   | [x],_=>exact List.pairwise_singleton _ _
   | _::_::_,h2=>simp at h2;omega
 ·rw[if_neg h2,if_neg h2]
  have hne:ks≠[]:=by
   intro e
   have:=j5.1
   rw[e]at this
   rw[List.size_toArray,←this]at h2
   simp at h2
  refine wpAny_bind (ZeH (fun v hv=>?_) hne ?_)
  ·obtain⟨i,hi,rfl⟩:=List.getElem_of_mem hv
   have h2:i<vs.length:=by rw[←j5.1];exact hi
   exact⟨_,_,j5.2 i ks[i] vs[i] (List.getElem?_eq_getElem hi) (List.getElem?_eq_getElem h2)⟩
  ·refine wpAny_bind (wpAny_mono (Zgp (a0:=ks.zip vs) (st:=SortSt.mk' (tuples' true) (ks.toArray.zip vs.toArray) #[] 7 none) (Q:=fun _ v=>(arrOf v).toList.Perm (ks.zip vs)∧(arrOf v).toList.Pairwise (Le (ltT s2.heap))∧failedOf v=none)
    (Zjj _) ZhY (fun u hu=>(Zeo j5 hu).2) rfl rfl rfl (by show (ks.toArray.zip vs.toArray).toList=_;rw[zs]) fun v p1 p2 p3=>⟨p1,p2,p3⟩) ?_ fun _ _ e=>e)
   rintro⟨⟨⟩,v⟩ s3 ⟨rfl,p1,p2,p3⟩
   refine fin v p3 ?_ ?_
   ·rw[Array.toList_map]
    have:=p1.map (fun p:Keyed=>p.2)
    rw[zm]at this
    exact this
   ·rw[Array.toList_map,List.pairwise_map]
    refine p2.imp_of_mem fun {x y} hx hy e=>?_
    have e1:=(Zeo j5 (p1.mem_iff.mp hx)).1
    have e2:=(Zeo j5 (p1.mem_iff.mp hy)).1
    have e':ltP (keyT s3.heap y.1) (keyT s3.heap x.1)=false:=e
    rw[e1,e2]at e'
    exact e'
end
section
variable {X:Cx}{k:Nat}{f C:Addr}{fd:FuncData}{ps:List Str}{sp:Sp}{dvs:List V}{ds:List Value}{x m:Str}{p pos apos:Pos}{e o:Expr}{es:List Expr}{ta:TE}{t:TA}
def ZjW (C:Addr)(m:Str)(sp:Sp)(dvs:List V)(ta:TE)(t:TA):TX:=fun σ H Q E=>ta σ H fun x H1=>∃a dx fs,x=.ref a∧H1 a=some (.ins C dx fs)∧fs.lookup m=none∧t σ H1 fun vs H2=>sp (x::(vs++dvs)) H2 Q E
def ZjX (C:Addr)(sp:Sp)(dvs:List V)(t:TA):TX:=fun σ H Q E=>t σ H fun vs H1=>∀x dx,H1 x=none→H1 dx=none→dx≠x→sp (.ref x::(vs++dvs)) (upd (upd H1 dx (.own x)) x (.ins C dx [])) (fun v H2=>v=.non∧Q (.ref x) H2) E
end
section
variable {X:Cx}
def Zka (t u:TSx):TSx:=fun D Ex σ H=>t { D with nx:=fun σ1 H1=>u D Ex σ1 H1 } Ex σ H
end
section
variable {X:Cx}{pins:List (Addr×Obj)}{σ:St}{H:Hp}{s:Shared}
def ZjK:HO→Prop
 | .tup _=>False
 | .tbl _=>False
 | .own _=>False
 | _=>True
theorem Inv.shift {a:Addr}{u u':HO}(I:Inv X pins σ H s)(ha:H a=some u)(hu:ZjK u)(hf:∀o v,X.H₀ a≠some (.frz o v))(new:ObjOk X.prog X.w (upd H a u') s.heap a u'):Inv X pins σ (upd H a u') s:=by
 have nn:∀b,H b=none→b≠a:=fun b n z=>by rw[z,ha]at n;cases n
 refine⟨I.ok,I.os,I.bare,⟨I.base.keep,I.base.slot,fun b o e n hx=>?_,I.base.there,fun b xs e=>?_,fun b o v e=>?_,fun b ps e=>?_⟩,I.loc,I.cell,?_,fun x c e=>?_,fun p hp=>?_,fun b ob e=>?_,I.len⟩
 ·have:=I.base.free b o e n hx
  rw[Zac (nn b this)];exact this
 ·have:=I.base.tups b xs e
  have ne:b≠a:=fun z=>by rw[z,ha]at this;cases this;exact hu
  rw[Zac ne];exact this
 ·have ne:b≠a:=fun z=>hf o v (by rw[←z];exact e)
  rw[Zac ne];exact I.base.frzs b o v e
 ·obtain⟨m,q⟩:=I.base.tbls b ps e
  have ne:b≠a:=fun z=>by rw[z,ha]at q;cases q;exact hu
  exact⟨m,by rw[Zac ne];exact q⟩
 ·rw[Zac (nn _ I.free)];exact I.free
 ·rw[Zac (nn _ (I.freeC x c e))];exact I.freeC x c e
 ·obtain⟨e,n,r⟩:=I.pin p hp
  exact⟨e,by rw[Zac (nn _ n)];exact n,r⟩
 ·by_cases hb:b=a
  ·subst hb
   rw[Zaf]at e
   cases e
   exact new
  ·rw[Zac hb]at e
   refine(I.hok b ob e).stay (fun _ _ _ q=>q) (fun c q=>?_) fun c xs q=>?_
   ·have ne:c≠a:=fun z=>by rw[z,ha]at q;cases q;exact hu
    rw[Zac ne];exact q
   ·have ne:c≠a:=fun z=>by rw[z,ha]at q;cases q;exact hu
    rw[Zac ne];exact q
theorem Inv.notFrz {a:Addr}{u:HO}(I:Inv X pins σ H s)(ha:H a=some u)(hu:∀o v,u≠.frz o v):∀o v,X.H₀ a≠some (.frz o v):=fun o v e=>by
 have:=I.base.frzs a o v e
 rw[ha]at this
 exact hu o v (Option.some.inj this)
theorem Inv.freezeD {a:Addr}{kvs:List (Key×V)}(I:Inv X pins σ H s)(ha:H a=some (.dK kvs)):∃o es ep,o.data=.dict es ep∧s.heap.get? a=some o∧Inv X pins σ (upd H a (.frz o (.dK kvs))) s:=by
 obtain⟨z,y,vs,r,ob,es,ep,e,c⟩:=I.hok a _ ha
 refine⟨ob,es,ep,c.2.1,e,I.shift ha trivial (I.notFrz ha fun o v q=>by cases q) ⟨e,z,y,vs,r,ob,es,ep,e,c⟩⟩
theorem Inv.thawD {a:Addr}{o:Obj}{kvs:List (Key×V)}(I:Inv X pins σ H s)(ha:H a=some (.frz o (.dK kvs)))(hf:∀o v,X.H₀ a≠some (.frz o v)):Inv X pins σ (upd H a (.dK kvs)) s:=by
 obtain⟨e,z,y,vs,r,c⟩:=I.hok a _ ha
 exact I.shift ha trivial hf ⟨z,y,vs,r,c⟩
end
theorem ZkU {P:Program}{w:World}{k:Key}{u:Value}(h:(Zap P w).is k u=true):RelV (kV k) u:=by
 cases k with
 | inl i=>
  have h':(intKind P w).is i u=true:=h
  cases u<;>first | (exact absurd h' Bool.false_ne_true) | skip
  rename_i j t
  have e:(i == j)=true∨(j == i)=true:=by first | exact .inl h' | exact .inr h'
  rcases e with e | e
  ·exact⟨t,by rw[beq_iff_eq.mp e]⟩
  ·exact⟨t,by rw[beq_iff_eq.mp e]⟩
 | inr x=>
  have h':(strKind P w).is x u=true:=h
  cases u<;>first | (exact absurd h' Bool.false_ne_true) | skip
  rename_i j t
  have e:(x == j)=true∨(j == x)=true:=by first | exact .inl h' | exact .inr h'
  rcases e with e | e
  ·exact⟨t,by rw[beq_iff_eq.mp e]⟩
  ·exact⟨t,by rw[beq_iff_eq.mp e]⟩
def Itd (o:Obj)(kvs:List (Key×V))(a:Addr):It:=
 ⟨fun i H=>H a=some (.frz o (.dK kvs))∧i<kvs.length,fun i H x H'=>H'=H∧∃p,kvs[i]?=some p∧x=kV p.1,fun i H=>H a=some (.frz o (.dK kvs))∧kvs.length≤i⟩
theorem KV.getK {kvs:List (Key×V)}{vs:List (Key×Value)}(r:KV kvs vs):∀ {i:Nat} {p:Key×V},kvs[i]?=some p→∃v,vs[i]?=some (p.1,v):=by
 intro i p h
 have hk:=r.keys
 have hl:=r.length
 have hi:i<vs.length:=by rw[←hl];exact(List.getElem?_eq_some_iff.mp h).1
 have e1:(kvs.map (·.1))[i]?=some p.1:=by rw[List.getElem?_map,h];rfl
 rw[hk,List.getElem?_map,List.getElem?_eq_getElem hi]at e1
 refine⟨vs[i].2,?_⟩
 rw[List.getElem?_eq_getElem hi]
 have:vs[i].1=p.1:=Option.some.inj e1
 rw[←this]
theorem Zgf {P:Program}{w:World}{K:PySem.W.Frag}{tg:Expr}{o:Obj}{es:Array DictEntry}{ep:Nat}{kvs:List (Key×V)}(a it:Addr)(hd:o.data=.dict es ep):Turn P w K tg (Itd o kvs a) [it] it (fun i h=>h.IsKeyIter it a i kvs.length ep) where
 mem:=by simp
 obj:=fun i h st b hb=>by
  have e:b=it:=by simpa using hb
  subst e
  obtain⟨o,e,c,d⟩:=st
  exact⟨o,e,fun v z=>by rw[d]at z;cases z⟩
 keep:=fun i h h' st k=>let ⟨o,ho,r⟩:=st;⟨o,k it (by simp) o ho,r⟩
 item:=by
  intro X hP hw hK hc i pins s σ H E I hf st hg
  subst hP hw hK
  obtain⟨ha,hi⟩:=hg
  obtain⟨e,z,y,vs,r,o',es',ep',e',c1,c2,c3⟩:=I.hok a _ ha
  rw[e]at e'
  cases e'
  rw[hd]at c2
  cases c2
  obtain⟨v,hv⟩:=r.getK (List.getElem?_eq_getElem hi)
  obtain⟨f0,f1,f2,f3,f4,f5⟩:=hf it (by simp)
  rw[r.length]at st
  refine wpAny_pyNext_dict_item st ⟨o,es,e,c1,hd,c3⟩ hv fun key h' hk st' sb=>?_
  have I1:Inv X pins σ H { s with heap:=h' }:=I.turned (t':=s.toks) (fun b o hb e=>(sb.2 b hb).trans e) f0 f1 f3 f4 f5
  obtain⟨oi,ei,ci,di⟩:=id st'
  rw[←r.length]at st'
  exact⟨key,rfl,Zg3 (s:={ s with heap:=h' }) ei ci di (by decide) ⟨kV kvs[i].1,H,I1,ZkU hk,⟨rfl,_,List.getElem?_eq_getElem hi,rfl⟩,st',fun b hb=>(hf b hb).1⟩⟩
 done:=by
  intro X hP hw hK hc i pins s σ H E I hf st hg
  subst hP hw hK
  obtain⟨ha,hi⟩:=hg
  obtain⟨e,z,y,vs,r,o',es',ep',e',c1,c2,c3⟩:=I.hok a _ ha
  rw[e]at e'
  cases e'
  rw[hd]at c2
  cases c2
  obtain⟨f0,f1,f2,f3,f4,f5⟩:=hf it (by simp)
  rw[r.length]at st hi
  exact wpAny_pyNext_dict_end (I.ok.hd hc) st ⟨o,es,e,c1,hd,c3⟩ (List.getElem?_eq_none hi) fun h' eb=>⟨rfl,I.turned (t':=s.toks) (fun b o hb e=>eb b o hb e) f0 f1 f3 f4 f5⟩
 self:=fun _ _ _ _ _ st h=>wpAny_pyIter_keyiter st h
section
variable {X:Cx}{tg:Expr}
def Zk0 (td:TE):TI:=fun σ H R=>td σ H fun x H1=>∃a kvs,x=.ref a∧H1 a=some (.dK kvs)∧∀o,R (Itd o kvs a) (upd H1 a (.frz o (.dK kvs)))
theorem Zja {l:Expr}{tl:TE}(hl:PE X l tl):PI X tg l (Zk0 tl):=by
 intro pins s σ H R I h
 refine thn (hl pins s σ H _ I h) fun v s1 ⟨x,H1,I1,r1,q1⟩=>?_
 obtain⟨a,kvs,e,hq,q⟩:=q1
 subst e
 cases r1
 obtain⟨z,y,vs,r,_⟩:=id (I1.hok a _ hq)
 obtain⟨o,es,ep,hd,ho,I2⟩:=I1.freezeD hq
 obtain⟨_,z2,y2,vs2,r2,o',es',ep',e',c1,c2,c3⟩:=I2.hok a _ Zaf
 rw[ho]at e'
 cases e'
 rw[hd]at c2
 cases c2
 refine wpAny_pyIter_dict y2 ⟨o,es,ho,c1,hd,c3⟩ ?_
 refine⟨s1.heap.objs.size,[s1.heap.objs.size],_,_,_,rfl,I2.kept (t':=s1.toks) fun b o e=>Heap.get?_push_of_some _ e,Zgf (kvs:=kvs) a _ hd,⟨_,Heap.get?_push_size _ rfl,rfl,by rw[r2.length];rfl⟩,fun b hb=>?_,q o⟩
 have e:b=s1.heap.objs.size:=by simpa using hb
 subst e
 exact I2.fpOk (Nat.le_refl _) (I2.hok.fresh (Nat.le_refl _))
def Thw (a:Addr)(P:Hp→Prop)(H':Hp):Prop:=∃o kvs,H' a=some (.frz o (.dK kvs))∧P (upd H' a (.dK kvs))
def thD (a:Addr)(D:Ends):Ends:={ nx:=fun σ H=>Thw a (D.nx σ) H,rt:=fun v H=>Thw a (D.rt v) H,bk:=fun σ H=>Thw a (D.bk σ) H,ct:=fun σ H=>Thw a (D.ct σ) H }
def Zmf (ts:TS):TS:=fun D σ H=>∃a kvs,H a=some (.dK kvs)∧ts (thD a D) σ H
def Zlm (t:TE):TE:=fun σ H Q=>∃a kvs,H a=some (.dK kvs)∧t σ H fun v H'=>Thw a (Q v) H'
theorem Zjb {e:Expr}{t:TE}(h:PE X e t):PE X e (Zlm t):=by
 intro pins s σ H Q I ⟨a,kvs,ha,hh⟩
 have nf:=I.notFrz ha fun o v q=>by cases q
 refine wpAny_mono (h pins s σ H _ I hh) (fun u s1 ⟨v,H1,I1,r,o,k1,e1,q1⟩=>⟨v,_,I1.thawD e1 nf,r,q1⟩) fun _ _ z=>z
end
section
variable {g:TG}{tb:TS}{D:Ends}{σ:St}{H:Hp}{o:Obj}{kvs:List (Key×V)}{a:Addr}
end
theorem Same.thaw {H H1 H2:Hp}{a:Addr}{o:Obj}{kvs:List (Key×V)}(ha:H a=some (.dK kvs))(s:Same (upd H a (.frz o (.dK kvs))) H2):Same H (upd H2 a (.dK kvs)):=fun b u hb=>by
 by_cases e:b=a
 ·rw[e]at hb ⊢;rw[Zaf,←hb,ha]
 ·rw[Zac e];exact s b u (by rw[Zac e];exact hb)
theorem Zdw:typeLookup (.type "dict") "__len__"=pure (some (.builtin "dict.__len__")):=by rw[typeLookup_type,builtinLookup_eq_fast];kernel_rfl
theorem ZbG:∀ {vs:List V} {us:List Value},vs.length=us.length→(∀(i:Nat) (x:V) (u:Value),vs[i]?=some x→us[i]?=some u→RelV x u)→Vals vs us
 | [],[],_,_=>.nil
 | [],_::_,h,_=>by simp at h
 | _::_,[],h,_=>by simp at h
 | x::vs,u::us,h,r=>.cons (r 0 x u rfl rfl) (ZbG (by simpa using h) fun i y v h1 h2=>r (i+1) y v h1 h2)
section
variable {prog:Program}{w:World}{A:Around}{E:Value→Shared→Prop}{s:Shared}
theorem Zeg {S:Addr}{ls:List (Key×Value)}{ep:Nat}{Q:List Value→Shared→Prop}(hh:A.handled=none)(hd:(S == sysModules)=false)(hS:s.heap.DictAt (Zap prog w) S ls ep)(hn:ls.length≤sizeLine)
  (hQ:∀(s':Shared) (vs:List Value),(∀b o,s.heap.get? b=some o→s'.heap.get? b=some o)→s'.gens=s.gens→s'.os=s.os→Vals (ls.map fun p=>kV p.1) vs→Q vs s'):wpAny (model prog w) A (collect (.ref S)) Q E s:=by
 unfold collect
 refine wpAny_bind (wpAny_runValue (codeAny_builtin F.entry_proto_collect ?_))
 rw[Around.under_plainId F.plain_proto_collect _]
 show wpAny _ A.in1 (newList [] >>= fun l=>again (.builtin "list.__iadd__" ⟨[l,.ref S],[]⟩)) _ _ s
 refine wpAny_bind (wpAny_newObj_type (wpAny_pure ⟨plainId_quiet F.plain_list_iadd _,codeAny_builtin F.entry_list_iadd ?_⟩))
 rw[Around.under_plainId F.plain_list_iadd _]
 generalize hH:s.heap.push { cls:=.type "list",data:=.seq ([]:List Value).toArray }=H
 have hHs:H.objs.size=s.heap.objs.size+1:=by rw[←hH,Heap.size_push]
 have hL:H.get? s.heap.objs.size=some { cls:=.type "list",data:=.seq ([]:List Value).toArray }:=hH▸Heap.get?_push_size _ rfl
 have k1:∀b o,s.heap.get? b=some o→H.get? b=some o:=fun b o e=>hH▸Heap.get?_push_of_some _ e
 have hS1:H.DictAt (Zap prog w) S ls ep:=hS.keep k1
 have hT:Shared.TypeIs { s with heap:=H } (.ref S) "dict":=hS1.dictOf.typeIs
 have nS:S≠s.heap.objs.size:=Nat.ne_of_lt hS.lt_size
 show wpAny _ A.in1 (Builtin.List.listExtendWith (.ref s.heap.objs.size) (.ref S) (.ref s.heap.objs.size)) _ _ { s with heap:=H }
 unfold Builtin.List.listExtendWith
 refine wpAny_bind (wpAny_typeOf hT ?_)
 have h1:Builtin.List.listSameRef (.ref s.heap.objs.size) (.ref S)=false:=by simp[Builtin.List.listSameRef,Ne.symm nS]
 have h2:(Value.type "dict" == Value.type "list")=false:=by decide
 have h3:(Value.type "dict" == Value.type "tuple")=false:=by decide
 simp only[h1,h2,h3,Bool.or_false,Bool.false_eq_true,if_false]
 refine wpAny_bind (wpAny_pyIter_dict (s:={ s with heap:=H }) hd hS1 ?_)
 obtain⟨I,hI0⟩:∃I,I=H.objs.size:=⟨_,rfl⟩
 obtain⟨h2',hh2⟩:∃h2',h2'=H.push { cls:=.type "dict_keyiterator",data:=.fields #[.ref S,.int 0 0,.int ls.length 0,.int ep 0] }:=⟨_,rfl⟩
 rw[←hh2]
 show wpAny _ A.in1 (holding [.ref H.objs.size] (Builtin.List.listLengthHint (.ref S)) >>= _) _ _ _
 rw[←hI0]
 have k2:∀b o,H.get? b=some o→h2'.get? b=some o:=fun b o e=>by rw[hh2];exact Heap.get?_push_of_some _ e
 have hI:H.objs.size≤I:=Nat.le_of_eq hI0.symm
 have nI:S≠I:=by rw[hI0];exact Nat.ne_of_lt hS1.lt_size
 have st0:h2'.IsKeyIter I S 0 ls.length ep:=⟨_,by rw[hh2,hI0];exact Heap.get?_push_size _ rfl,rfl,rfl⟩
 have hS2:h2'.DictAt (Zap prog w) S ls ep:=hS1.keep k2
 have W:∀A':Around,A'.handled=none→_:=fun A' hA=>Walks.dictKeys (prog:=prog) (w:=w) (knd:=Zap prog w) (A:=A') hA I S nI ls ep
 have st:=And.intro st0 hS2
 have hfp:∀b∈[I,S],b=S∨H.objs.size≤b:=fun b hb=>by
  rcases List.mem_cons.mp hb with z | z
  ·exact .inr (by rw[z];exact hI)
  ·exact .inl (by simpa using z)
 have hT2:Shared.TypeIs { s with heap:=h2' } (.ref S) "dict":=hS2.dictOf.typeIs
 refine wpAny_bind (wpAny_holding ?_)
 unfold Builtin.List.listLengthHint
 refine wpAny_bind (wpAny_specialOf hT2 Zdw ?_)
 wp_delta
 refine wpAny_bind (wpAny_isInstance (T:="dict") (v:=.ref S) (b:=true) hT2 (by rw[isSubtype_type];kernel_rfl) ?_)
 show wpAny _ A.in1 (typeOf (Value.ref S) >>= fun r=>_) _ _ _
 refine wpAny_bind (wpAny_typeOf hT2 ?_)
 refine wpAny_pure ?_
 rw[if_pos (by decide)]
 refine wpAny_bind (wpAny_rule ?_)
 have hL2:h2'.get? s.heap.objs.size=some { cls:=.type "list",data:=.seq ([]:List Value).toArray }:=k2 _ _ hL
 refine wpAny_bind ?_
 show wpAny _ A.in1 (updateSeq s.heap.objs.size (·.push .none) >>= fun _=>updateSeq s.heap.objs.size (·.pop)) _ _ _
 refine wpAny_bind (wpAny_updateSeq hL2 rfl ?_)
 have hL3:=Heap.get?_update_self (Obj.mapSeq (·.push Value.none)) hL2 rfl
 refine wpAny_updateSeq hL3 rfl ?_
 have hL4:=Heap.get?_update_self (Obj.mapSeq (·.pop)) hL3 rfl
 have oth:∀b o,b≠s.heap.objs.size→h2'.get? b=some o→((h2'.update s.heap.objs.size (Obj.mapSeq (·.push Value.none))).update s.heap.objs.size (Obj.mapSeq (·.pop))).get? b=some o:=
  fun b o hb e=>(Heap.get?_update_other _ _ (Ne.symm hb)).trans ((Heap.get?_update_other _ _ (Ne.symm hb)).trans e)
 have hle:s.heap.objs.size+1≤I:=by rw[←hHs];exact hI
 have hSf:s.heap.objs.size∉[I,S]:=fun z=>by
  rcases hfp _ z with q | q
  ·exact nS q.symm
  ·have q':H.objs.size≤s.heap.objs.size:=q
   rw[hHs]at q';exact absurd q' (Nat.not_succ_le_self _)
 refine wpAny_pure ⟨plainId_quiet F.plain_extend_loop _,codeAny_extend_loopS (W A.in1 hh).toS hn _ hSf _ ls.length 0 _ _ _ rfl (Nat.zero_le _) ((W A.in1 hh).frame 0 h2' _ st fun b hb o e=>oth b o (fun z=>hSf (z▸hb)) e) hL4 (ItemsOf.nil _) fun s' acc' c' hm hS' hacc=>?_⟩
 show wpAny _ A (load s.heap.objs.size >>= fun r=>_) _ _ s'
 refine wpAny_bind (wpAny_load hS' ?_)
 have hvs:Vals (ls.map fun p=>kV p.1) acc'.toList:=by
  refine ZbG (by rw[List.length_map];exact(Array.length_toList.trans hacc.1).symm) fun i x u h1 h2=>?_
  rw[Array.getElem?_toList]at h2
  obtain⟨k,v,e,hk⟩:=hacc.2 i u h2
  rw[List.getElem?_map,e]at h1
  cases h1
  exact ZkU hk
 have done:=hQ s' acc'.toList (fun b o e=>by
  have hlt:=Heap.lt_size e
  refine hm.heap b o (fun z=>?_) (oth b o (Nat.ne_of_lt hlt) (k2 b o (k1 b o e)))
  rcases List.mem_cons.mp z with q | q
  ·rw[q]at hlt;exact Nat.lt_irrefl _ hlt
  ·have q:b=I:=by simpa using q
   rw[q]at hlt
   exact absurd hlt (Nat.not_lt.mpr (Nat.le_of_succ_le hle))) hm.gens hm.os hvs
 exact wpAny_pure done
end
def kTx (l:List Nat):Key:=.inr ⟨l.toArray⟩
section
variable {X:Cx}
end
end L2
namespace L2
open PySem PySem.Spec PyProof.Rows
open PySem.W (Frag)
def AtW (l w:List Nat)(i:Nat):Prop:=i+w.length≤l.length∧(l.drop i).take w.length=w
def Inf (w l:List Nat):Prop:=∃i,AtW l w i
theorem Zba (l w:List Nat)(i:Nat):StrLaws.At ⟨l.toArray⟩ ⟨w.toArray⟩ (⟨l.toArray⟩:Str).length i↔AtW l w i:=by
 have e1:(⟨l.toArray⟩:Str).length=l.length:=Zcg l
 have e2:(⟨w.toArray⟩:Str).length=w.length:=Zcg w
 unfold StrLaws.At AtW Builtin.Str.subAt
 rw[e1,e2]
 refine and_congr_right fun h=>?_
 have e3:l.toArray.extract i (i+w.length)=((l.drop i).take w.length).toArray:=by
  apply Array.ext'
  simp only[List.extract_toArray,List.extract_eq_take_drop]
  have:i+w.length-i=w.length:=by omega
  rw[this]
 show (l.toArray.extract i (i+w.length) == w.toArray)=true↔_
 rw[e3,beq_iff_eq]
 exact⟨fun z=>by simpa using congrArg Array.toList z,fun z=>by rw[z]⟩
theorem AtW.nil (l:List Nat):AtW l [] 0:=⟨by simp,by simp⟩
theorem Inf.nil (l:List Nat):Inf [] l:=⟨0,AtW.nil l⟩
theorem Inf.len {w l:List Nat}(h:Inf w l):w.length≤l.length:=by obtain⟨i,h,_⟩:=h;omega
theorem AtW.trans {u v w:List Nat}{i j:Nat}(h1:AtW v u i)(h2:AtW w v j):AtW w u (j+i):=by
 obtain⟨a1,b1⟩:=h1
 obtain⟨a2,b2⟩:=h2
 refine⟨by omega,?_⟩
 have e:(w.drop (j+i)).take u.length=((((w.drop j).take v.length).drop i).take u.length):=by
  rw[List.drop_take,List.drop_drop,List.take_take]
  congr 1
  omega
 rw[e,b2,b1]
theorem Inf.trans {u v w:List Nat}(h1:Inf u v)(h2:Inf v w):Inf u w:=by
 obtain⟨i,h1⟩:=h1
 obtain⟨j,h2⟩:=h2
 exact⟨_,h1.trans h2⟩
theorem same_upd3' {H H2:Hp}{e:Addr}{o':HO}(h:H e=none)(s:Same H H2):Same H (upd H2 e o'):=fun b u hb=>by
 have:b≠e:=fun z=>by rw[z,h]at hb;cases hb
 rw[Zac this];exact s _ _ hb
section
variable {tt:TT}{te:TE}{Q:VK}{τ0:St}{H:Hp}{K:Frag}{a:Addr}{xs:List V}
theorem CompRun.listL (b:Nat→Bool)(f:Nat→V)(hz:xs.length≤100000)(hx:SqL K H a xs)
  (ht:∀i H' Q' (h:i<xs.length),Same H H'→(∀H'',Same H' H''→Q' (b i) H'')→tt (τ0.set 0 (some (xs.getD i .non))) H' Q')
  (he:∀i H' Q' (h:i<xs.length),b i=true→Same H H'→(∀H'',Same H' H''→Q' (f i) H'')→te (τ0.set 0 (some (xs.getD i .non))) H' Q')
  (hQ:∀p H',Same H H'→H p=none→H' p=some (.lst (((List.range xs.length).filter b).map f))→Q (.ref p) H'):CompRun (Itl K a) τ0 (Zb1 0) tt te H Q:=by
 intro acc ha
 refine⟨fun i m τ H2=>i≤xs.length∧m=xs.length-i∧(∀w:Option V,τ.set 0 w=τ0.set 0 w)∧Same H H2∧H2 acc=some (.lst (((List.range i).filter b).map f)),⟨xs.length,Nat.zero_le _,rfl,fun _=>rfl,ZaA ha,Zaf⟩,?_⟩
 rintro i m τ H2 ⟨hi,rfl,hτ,hs,hacc⟩
 by_cases hlt:i<xs.length
 ·refine .inr ⟨⟨xs,xs[i],hs.seq hx,by simp[hlt]⟩,fun τ' H'=>(∀w:Option V,τ'.set 0 w=τ0.set 0 w)∧Same H H'∧H' acc=some (.lst (((List.range (i+1)).filter b).map f)),fun τ' H' q=>⟨xs.length-(i+1),by omega,hlt,rfl,q⟩,fun x H3 y=>?_⟩
  obtain⟨rfl,y⟩:=y
  have ex:x=xs.getD i .non:=by rw[List.getD_eq_getElem?_getD,y xs (hs.seq hx)];rfl
  subst ex
  show tt (τ.set 0 (some (xs.getD i .non))) _ _
  rw[hτ]
  have hτ':∀w:Option V,(τ0.set 0 (some (xs.getD i .non))).set 0 w=τ0.set 0 w:=fun w=>by rw[List.set_set]
  refine ht i _ _ hlt hs fun H4 s4=>?_
  cases hb:b i with
  | false=>
   rw[if_neg Bool.false_ne_true]
   refine⟨hτ',hs.trans s4,?_⟩
   rw[s4 _ _ hacc,List.range_succ,List.filter_append]
   simp[hb]
  | true=>
   rw[if_pos rfl]
   refine he i _ _ hlt hb (hs.trans s4) fun H5 s5=>⟨_,s5 _ _ (s4 _ _ hacc),?_,hτ',same_upd3' ha ((hs.trans s4).trans s5),?_⟩
   ·rw[List.length_map]
    have:=List.length_filter_le b (List.range i)
    rw[List.length_range]at this
    rw[sizeLine_eq];omega
   ·rw[Zaf,List.range_succ,List.filter_append]
    simp[hb]
 ·have e:i=xs.length:=by omega
  subst e
  exact .inl ⟨⟨xs,hs.seq hx,Nat.le_refl _⟩,hQ acc H2 hs ha hacc⟩
end
def infB (w l:List Nat):Bool:=(List.range (l.length+1)).any fun i=>decide (i+w.length≤l.length)&&decide ((l.drop i).take w.length=w)
theorem Zfk {w l:List Nat}:infB w l=true↔Inf w l:=by
 unfold infB Inf AtW
 rw[List.any_eq_true]
 constructor
 ·rintro⟨i,_,h⟩
  rw[Bool.and_eq_true,decide_eq_true_eq,decide_eq_true_eq]at h
  exact⟨i,h⟩
 ·rintro⟨i,h1,h2⟩
  refine⟨i,List.mem_range.mpr (by omega),?_⟩
  rw[Bool.and_eq_true,decide_eq_true_eq,decide_eq_true_eq]
  exact⟨h1,h2⟩
section
variable {X:Cx}
end
def rEqI (K:Frag)(neg:Bool):R2:=fun x y H Q=>rEqS K neg x y H Q∨∃a b c,x=.ref a∧y=.ref b∧SqL K H a [.ref c]∧SqL K H b [.ref c]∧Q (.bl (!neg)) H
theorem Zkq {X:Cx}{K:Frag}(hK:X.K=K)(hu:X.A.units+64<cLine):OpR X (compareOp .Eq) (rEqI K false):=by
 intro pins s σ H x y v u Q I rx ry h
 rcases h with h | ⟨a,b,c,rfl,rfl,h1,h2,q⟩
 ·exact Zkp hK hu pins s σ H x y v u Q I rx ry h
 ·subst hK
  cases rx;cases ry
  obtain⟨its,r,p,_⟩:=I.list h1
  obtain⟨its',r',p',_⟩:=I.list h2
  obtain⟨w1,rfl,e1⟩:=r.one
  obtain⟨w2,rfl,e2⟩:=r'.one
  cases e1;cases e2
  refine SeqAt.RcAt.lists (e:=fun _=>true) p.isList p'.isList rfl (by omega) (fun j _ _=>SeqAt.EqAt.same _) _ _ _ _ ⟨.bl true,H,I,rfl,q⟩
end L2
namespace L2
open PySem PySem.Spec PyProof.Rows
section
variable {X:Cx}
end
section
variable {X:Cx}{pins:List (Addr×Obj)}{σ:St}{H:Hp}{s:Shared}{a b:Addr}{kvs more:List (Key×V)}{A:Around}{E:Value→Shared→Prop}
def Zlp (td ty:TE):TE:=fun σ H Q=>td σ H fun x H1=>∃a,x=.ref a∧IsD H1 a∧ty σ H1 fun y H2=>∃b kvs more,y=.ref b∧H2 a=some (.dK kvs)∧H2 b=some (.dK more)∧a≠b∧kvs.length+more.length≤sizeLine∧Q .non (upd H2 a (.dK (Zbh kvs more)))
end
section
variable {prog:Program}{w:World}{A:Around}{E:Value→Shared→Prop}{s:Shared}{l I S:Addr}{ns:List Int}{vs:List Value}{R:Result→Shared→Prop}{Q:Value→Shared→Prop}{d:Value}
end
section
variable {X:Cx}{e:Expr}{ta:TA}{p p2 pos kpos:Pos}
def Zmh (n:Int):List V→Hp→VK→Prop:=fun xs H Q=>∃a ns,xs=[.ref a]∧H a=some (.lst (ns.map V.int))∧∀r,(ns=[]→r=n)→(ns≠[]→r∈ns)→(∀x∈ns,x≤r)→Q (.int r) H
end
def kfT:Value→Int×List Nat
 | .str x _=>((x.length:Nat),x.cps.toList)
 | _=>(0,[])
abbrev Zcx (x:Str)(p1 p2 p3 p4 p5:Pos)(k:Nat):Expr:=.Tuple [.Call (.Name "len" p1) [.Name x p2] [] p3,.Name x p4] k p5
structure LamSc (scope:Scope)(x:Str):Prop where
 kind:scope.kind=.function
 co:scope.isCoroutine=false
 gen:scope.isGenerator=false
 loc:scope.names.lookup x=some .local
 glb:scope.names.lookup ("len":Str)=some .globalImplicit
 nodbg:(x == ("__debug__":Str))=false
section
variable {prog:Program}{w:World}{A:Around}{s:Shared}
theorem Zhn (f:Str→Option NameKind){x:Str}{v:Value}(h:f x=some .local):bindL f [(x,v)] (fun _=>none) x=some v:=by
 unfold bindL bindL
 rw[if_pos h,if_pos rfl]
theorem Zjo {g:Addr}{o:Obj}{name qual x:Str}{params:Arguments}{scope:Scope}{pm cv ctv:Value}{mg mb:Str→Option Value}{vs:List Value}{p1 p2 p3 p4 p5:Pos}{k:Nat}
  (ho:s.heap.get? g=some o) (hod:o.data=.func (PySem.W.kla_fn name qual params (Zcx x p1 p2 p3 p4 p5 k) scope [] pm cv ctv)) (hcd:s.heap.CodeRec cv qual) (S:LamSc scope x)
  (hb:∀(s:Shared) (u:Value),BindsTo s (PySem.W.kla_fn name qual params (Zcx x p1 p2 p3 p4 p5 k) scope [] pm cv ctv) ⟨[u],[]⟩ [(x,u)]) (hroom:A.depth<recursionLimit) (hlim:s.heap.NoLimit)
  (hg:s.heap.Ns mainGlobals mg) (hgl:mg "len"=none) (hbn:s.heap.Ns builtinsNs mb) (hbb:mb "len"=bootBuiltins "len") (hv:∀v∈vs,∃y t,v=.str y t∧y.length≤sizeLine):KeyCall (model prog w) A g vs kfT s:=by
 intro E s' v Q hvm hk hgen hos q
 obtain⟨y,t,rfl,hy⟩:=hv v hvm
 have hs:sizeLine=16777216:=sizeLine_eq
 refine wpAny_call (PySem.W.kla_callFunE hroom (hk _ _ ho) hod S.co S.gen rfl (let ⟨c,oc,ws,tq,e1,e2,r⟩:=hcd;⟨c,oc,ws,tq,e1,hk _ _ e2,r⟩) (hb _ _ _ _ _ _ ?_))
 refine wpAny_newFunctionEnv_cells S.kind (fun z hz=>.inl (by rw[List.mem_singleton.mp hz];exact S.loc)) fun env he s1 X=>?_
 refine⟨(hlim.keeps hk).keeps X.toInCall.keep,PySem.W.kla_codeExpr ?_⟩
 subst he
 obtain⟨h1,tk1,e1⟩:=X.toInCall.same
 have kp1:Kp s'.heap s1.heap:=X.toInCall.keep
 have lnm:∀(pp:Pos) (B:Around) (E2:Value→Shared→Prop) (s2:Shared) (Q2:Value→Shared→Prop),Kp s1.heap s2.heap→Q2 (.str y t) s2→wpAny (model prog w) B (eval (.Name x pp) (newEnv scope s'.heap.objs.size mainGlobals (cellsFrom (s'.heap.objs.size+1) scope.names []) (qual++".<locals>.") (some g) cv none builtinsNs)) Q2 E2 s2:=fun pp B E2 s2 Q2 k2 q2=>
  wpAny_Name (wpAny_loadName_local S.kind S.loc (X.toInCall.ns.keeps k2) (by
   exact Zhn _ S.loc) q2) S.nodbg
 refine wpAny_Tuple_spliced ?_
 show wpAny _ _ (spliced ((false,eval (.Call (.Name "len" p1) [.Name x p2] [] p3) _)::backTo p5 (starEach [.Name x p4] _))) _ _ s1
 refine Calls.spliced_cons ?_
 refine wpAny_Call_Name_kw (Calls.Name_function_global S.kind S.glb (Calls.loadGlobal_builtin (v:=.builtin "len") (show s1.heap.Ns mainGlobals mg from(hg.keeps hk).keeps kp1) hgl (show s1.heap.Ns builtinsNs mb from(hbn.keeps hk).keeps kp1) (hbb.trans rfl) ?_) (by decide))
 refine PyProof.Rows.callWith_builtin1 ?_ rfl rfl
 show wpAny _ _ (spliced ((false,eval (.Name x p2) _)::backTo p3 (starEach [] _))) _ _ s1
 refine Calls.spliced_cons (lnm p2 _ _ _ _ (fun _ _ e=>e) (Calls.spliced_nil ?_))
 refine len_str (by omega) ?_
 show wpAny _ _ (spliced ((false,eval (.Name x p4) _)::backTo p5 (starEach [] _))) _ _ _
 refine Calls.spliced_cons (lnm p4 _ _ _ _ (fun _ _ e=>e) (Calls.spliced_nil ?_))
 refine⟨by rw[hs];show 2≤16777216;decide,?_⟩
 rw[e1]
 refine q _ _ (fun b o e=>Heap.get?_push_of_some _ (by have:=kp1 b o e;rw[e1]at this;exact this)) rfl rfl ⟨_,_,_,_,_,rfl,Heap.get?_push_size _ rfl,rfl⟩
end
theorem ZcR (a v:Value):argsOk "sorted" ⟨[a],[(Str.ofString "key",v)]⟩:=by unfold argsOk;kernel_rfl
theorem ZbU (a v:Value):argsOk "list.sort" ⟨[a],[(Str.ofString "key",v)]⟩:=by unfold argsOk;kernel_rfl
section
variable {prog:Program}{w:World}{A:Around}{E:Value→Shared→Prop}{s:Shared}
end
def BefW (a b:List Nat):Prop:=a.length<b.length∨(a.length=b.length∧a<b)
theorem Zcu:∀ {a b:List Nat} {x y:List Nat},a.length=b.length→a<b→a++x<b++y
 | [],[],_,_,_,h=>by cases h
 | [],_::_,_,_,e,_=>by simp at e
 | _::_,[],_,_,e,_=>by simp at e
 | c::a,d::b,x,y,e,h=>by
  rw[List.cons_append,List.cons_append]
  cases h with
  | rel h=>exact List.Lex.rel h
  | cons h=>exact List.Lex.cons (Zcu (by simpa using e) h)
theorem ZbC {a:List Nat}:¬BefW a a:=fun h=>h.elim (fun h=>Nat.lt_irrefl _ h) fun h=>List.lt_irrefl _ h.2
end L2
namespace L2
open PySem PySem.Spec PyProof.Rows PySem.W
def ZmK:HO→Bool
 | .tbl _=>true
 | _=>false
def SameL (H H':Hp):Prop:=∀b o,H b=some o→ZmK o=false→H' b=some o
theorem SameL.refl (H:Hp):SameL H H:=fun _ _ e _=>e
theorem SameL.trans {H H1 H2:Hp}(a:SameL H H1)(b:SameL H1 H2):SameL H H2:=fun c o e n=>b c o (a c o e n) n
theorem Same.l {H H':Hp}(s:Same H H'):SameL H H':=fun b o e _=>s b o e
def ZeU (c:Addr)(q:Str):HO:=.ext fun h=>h.CodeRec (.ref c) q
theorem Zij {P:Program}{w:World}{H:Hp}{h:Heap}{c:Addr}{q:Str}(x:h.CodeRec (.ref c) q):ObjOk P w H h c (ZeU c q):=by
 obtain⟨c',o,vs,t,e,e1,r⟩:=id x
 cases e
 refine⟨x,⟨o,e1⟩,fun h1 h2 x1 k=>?_⟩
 obtain⟨c',o,vs,t,e,e1,r⟩:=x1
 cases e
 exact⟨c,o,vs,t,rfl,k _ e1,r⟩
def TblOk (H:Hp)(P:Addr)(pos:Pos)(q:Str):Prop:=∃ps,H P=some (.tbl ps)∧TriplesOk ps.toList∧(codeAmong pos ps.toList=none∨∃c,codeAmong pos ps.toList=some (.ref c)∧H c=some (ZeU c q))
theorem TblOk.same {H H':Hp}{P:Addr}{pos:Pos}{q:Str}(t:TblOk H P pos q)(s:Same H H'):TblOk H' P pos q:=by
 obtain⟨ps,e,tr,h⟩:=t
 exact⟨ps,s _ _ e,tr,h.imp id fun ⟨c,e1,e2⟩=>⟨c,e1,s _ _ e2⟩⟩
theorem tbl_new {P:Addr}{pos:Pos}{q:Str}{H:Hp}(h:H P=some (.tbl #[])):TblOk H P pos q:=⟨#[],h,trivial,.inl rfl⟩
theorem ZcL {pos pos':Pos}{c:Value}(hne:pos'.line≠pos.line∨pos'.col≠pos.col)(l:List Value)(h:TriplesOk l):codeAmong pos' (l++[rawInt pos.line,rawInt pos.col,c])=codeAmong pos' l:=by
 fun_induction TriplesOk l with
 | case1=>
  simp only[List.nil_append,codeAmong,rawInt]
  rw[if_neg]
  intro z
  simp only[Bool.and_eq_true,beq_iff_eq]at z
  rcases hne with n | n
  ·exact n (by have:=z.1;omega)
  ·exact n (by have:=z.2;omega)
 | case2 a t b u x rest ih=>
  simp only[List.cons_append,codeAmong]
  rw[ih h]
 | case3 l h1 h2=>exact h.elim
def SameT (pos:Pos)(H H':Hp):Prop:=SameL H H'∧∀(P':Addr) (pos':Pos) (q':Str),(pos'.line≠pos.line∨pos'.col≠pos.col)→TblOk H P' pos' q'→TblOk H' P' pos' q'
theorem SameT.then {pos:Pos}{H H1 H2:Hp}(s:SameT pos H H1)(t:Same H1 H2):SameT pos H H2:=⟨s.1.trans t.l,fun P' p' q' n T=>(s.2 P' p' q' n T).same t⟩
theorem SameT.ahead {pos:Pos}{H H1 H2:Hp}(t:Same H H1)(s:SameT pos H1 H2):SameT pos H H2:=⟨t.l.trans s.1,fun P' p' q' n T=>s.2 P' p' q' n (T.same t)⟩
structure LamEnv (base:Heap)(mg:Str→Option Value)(c P:Addr):Prop where
 hd:CodeHd base c P
 bm:base.BuiltinsAt mg P
section
variable {X:Cx}{pins:List (Addr×Obj)}{σ:St}{H:Hp}{s:Shared}
theorem Inv.table {P c':Addr}{ps more:Array Value}{q:Str}{h':Heap}{t':Nat}(I:Inv X pins σ H s)(hP:H P=some (.tbl ps))(hx:Heap.ExtBut P s.heap h')(hc:s.heap.objs.size≤c')(hr:h'.CodeRec (.ref c') q)(ht:h'.get? P=some (tabObj (ps++more))):
  Inv X pins σ (upd (upd H P (.tbl (ps++more))) c' (ZeU c' q)) { s with heap:=h',toks:=t' }:=by
 have fc:H c'=none:=I.hok.fresh hc
 have nPc:P≠c':=Zah hP fc
 have nt:∀ {b u},H b=some u→(∀ps,u≠.tbl ps)→b≠P:=fun e n z=>by rw[z,hP]at e;exact n _ (Option.some.inj e).symm
 have nc:∀ {b u},H b=some u→b≠c':=fun e=>Zah e fc
 have hz:∀ {b o},s.heap.get? b=some o→b≠c':=fun e z=>absurd (Heap.lt_size e) (by rw[z];exact Nat.not_lt.mpr hc)
 have nn:∀ {b},H b=none→b≠P:=fun e z=>by rw[z,hP]at e;cases e
 refine I.call' (s':={ s with heap:=h',toks:=t' }) (ch:=[]) rfl ⟨fun b o e n _ _=>hx b o (nn n) e,fun b o e n _ _=>⟨o.slots,hx b o (nn n) e⟩,fun b o e n _=>?_,fun b o e _=>?_,fun b xs e=>?_,fun b o u e=>?_,fun b qs e=>?_⟩ (fun b u e=>?_) I.bare (fun b z=>by cases z)
 ·rw[Zac (hz e),Zac (nn n)];exact n
 ·by_cases z:b=P
  ·exact⟨_,by rw[z];exact ht⟩
  ·exact⟨o,hx b o z e⟩
 ·rw[Zac (nc e),Zac (nt e fun _ z=>by cases z)];exact e
 ·rw[Zac (nc e),Zac (nt e fun _ z=>by cases z)];exact e
 ·by_cases z:b=P
  ·subst z
   rw[hP]at e;cases e
   exact⟨more,by rw[Zac nPc,Zaf]⟩
  ·exact⟨#[],by rw[Zac (nc e),Zac z,e];simp⟩
 ·by_cases z1:b=c'
  ·subst z1
   rw[Zaf]at e;cases e
   exact Zij hr
  ·rw[Zac z1]at e
   by_cases z2:b=P
   ·subst z2
    rw[Zaf]at e;cases e
    exact ht
   ·rw[Zac z2]at e
    refine(I.hok b u e).stay (fun d v hd k=>?_) (fun d k=>?_) fun d xs k=>?_
    ·refine hx d v ?_ k
     rcases hd with rfl | hd
     ·exact z2
     ·exact nt hd fun _ z=>by cases z
    ·rw[Zac (nc k),Zac (nt k fun _ z=>by cases z)];exact k
    ·rw[Zac (nc k),Zac (nt k fun _ z=>by cases z)];exact k
theorem ZgR {Q:Value→Shared→Prop}{E:Value→Shared→Prop}{c P:Addr}{pos:Pos}{params:Arguments}{body:Expr}{scope:Scope}{q:Str}{clos:List (Str×Addr)}(I:Inv X pins σ H s)(L:LamEnv X.base X.mg c P)(hcode:X.env.code=.ref c)(hcl:closureFor scope X.env=pure clos)(hdef:defaultsOf params X.env=([],[]))
  (hq:X.env.qual++"<lambda>"=q) (T:TblOk H P pos q)
  (h:∀(H1:Hp) (h':Heap) (tk:Nat) (c':Addr) (ctv:Value),SameT pos H H1→TblOk H1 P pos q→(∀b,H1 b=none→H b=none)→Inv X pins σ H1 { s with heap:=h',toks:=tk }→h'.CodeRec (.ref c') q→H1 c'=some (ZeU c' q)→Q (.ref h'.objs.size) { s with heap:=h'.push (kla_obj "<lambda>" q params body scope clos ((X.mg "__name__").getD .none) c' ctv),toks:=tk }):
  wpAny (model X.prog X.w) X.A (eval (.Lambda params body scope pos) X.env) Q E s:=by
 obtain⟨ps,hP,tr,hc⟩:=T
 have gP:s.heap.get? P=some (tabObj ps):=I.hok P _ hP
 have C:CodeHd s.heap c P:=L.hd.keeps I.bk
 have hg:s.heap.Ns mainGlobals X.mg:=I.mod.glob.keeps I.bk
 have hgP:mainGlobals≠P:=fun z=>by
  obtain⟨o,es,ep,e,hd,_⟩:=hg
  rw[z,gP]at e;cases e;cases hd
 have hbm:s.heap.BuiltinsAt X.mg P:=let ⟨bm,o,a1,a2,a3,a4,a5,r⟩:=L.bm;⟨bm,o,a1,a2,a3,a4,I.bk _ _ a5,r⟩
 refine kla_eval hdef ?_
 rw[hq]
 rcases hc with hn | ⟨c',hf,hc'⟩
 ·refine kla_makeFunction hcl I.ok.glob hg hcode C gP tr hn hgP hbm fun c' ctv h' tk hx hge hlt hrec htab=>?_
  have fc:H c'=none:=I.hok.fresh hge
  have J:=I.table (t':=tk) hP hx hge hrec htab
  have nPc:P≠c':=Zah hP fc
  have el:(ps++#[rawInt pos.line,rawInt pos.col,Value.ref c']).toList=ps.toList++[rawInt pos.line,rawInt pos.col,.ref c']:=by simp
  refine h _ _ _ c' ctv ⟨fun b o e n=>?_,fun P' pos' q' hne T'=>?_⟩ ⟨_,by rw[Zac nPc,Zaf],by rw[el];exact TriplesOk_snoc _ _ _ _ tr,.inr ⟨c',by rw[el];exact codeAmong_snoc _ tr hn,Zaf⟩⟩ (fun b e=>?_) J hrec Zaf
  ·rw[Zac (Zah e fc),Zac (fun z=>by rw[z,hP]at e;cases e;cases n)];exact e
  ·obtain⟨ps',e1,t1,h1⟩:=T'
   have keep:∀d,H d=some (ZeU d q')→upd (upd H P (.tbl (ps++#[rawInt pos.line,rawInt pos.col,Value.ref c']))) c' (ZeU c' q) d=some (ZeU d q'):=fun d e=>by
    rw[Zac (Zah e fc),Zac (fun z=>by rw[z,hP]at e;cases e)];exact e
   by_cases z:P'=P
   ·subst z
    rw[hP]at e1;cases e1
    refine⟨_,by rw[Zac nPc,Zaf],by rw[el];exact TriplesOk_snoc _ _ _ _ tr,?_⟩
    rw[el,ZcL hne _ tr]
    exact h1.imp id fun ⟨d,f1,f2⟩=>⟨d,f1,keep d f2⟩
   ·exact⟨ps',by rw[Zac (Zah e1 fc),Zac z];exact e1,t1,h1.imp id fun ⟨d,f1,f2⟩=>⟨d,f1,keep d f2⟩⟩
  ·by_cases z1:b=c'
   ·rw[z1];exact fc
   ·rw[Zac z1]at e
    by_cases z2:b=P
    ·rw[z2,Zaf]at e;cases e
    ·rw[Zac z2]at e;exact e
 ·refine kla_makeFunctionHit hcl I.ok.glob hg hcode C gP tr hf hbm fun ctv h' tk hk hsz=>?_
  have hrec:s.heap.CodeRec (.ref c') q:=(I.hok c' _ hc').1
  exact h H _ _ c' ctv ⟨SameL.refl _,fun _ _ _ _ T=>T⟩ ⟨ps,hP,tr,.inr ⟨c',hf,hc'⟩⟩ (fun b e=>e) (I.kept (t':=tk) hk) (hrec.keeps hk) hc'
theorem ZgS {Q:Value→Shared→Prop}{E:Value→Shared→Prop}{c P:Addr}{pos:Pos}{params:Arguments}{body:Expr}{scope:Scope}{q:Str}(I:Inv X pins σ H s)(L:LamEnv X.base X.mg c P)(hcode:X.env.code=.ref c)(hcl:closureFor scope X.env=pure [])(hdef:defaultsOf params X.env=([],[]))
  (hq:X.env.qual++"<lambda>"=q) (T:TblOk H P pos q)
  (h:∀(g:Addr) (H1:Hp) (s1:Shared) (cv ctv pm:Value),SameT pos H H1→TblOk H1 P pos q→(∀b,H1 b=none→H b=none)→Inv X pins σ H1 s1→s1.heap.get? g=some { cls:=.type "function",data:=.func (kla_fn "<lambda>" q params body scope [] pm cv ctv) }→s1.heap.CodeRec cv q→Q (.ref g) s1):
  wpAny (model X.prog X.w) X.A (eval (.Lambda params body scope pos) X.env) Q E s:=
 ZgR I L hcode hcl hdef hq T fun H1 h' tk c' ctv st t1 fr J hrec _=>h _ H1 _ (.ref c') ctv _ st t1 fr (J.kept (t':=tk) fun b o e=>Heap.get?_push_of_some _ e) (Heap.get?_push_size _ rfl) (hrec.push _)
end
theorem Zf4:bootBuiltins "sorted"=some (.builtin "sorted"):=rfl
def txV:Value→List Nat
 | .str x _=>x.cps.toList
 | _=>[]
theorem Zet:∀ {ws:List (List Nat)} {us:List Value},Vals (ws.map tx) us→ws=us.map txV∧(∀v∈us,∃y t,v=.str y t∧y.length=(txV v).length)
 | [],_,.nil=>⟨rfl,fun v hv=>by cases hv⟩
 | w::ws,_,.cons ⟨t,e⟩ r=>by
  obtain⟨h1,h2⟩:=Zet (ws:=ws) r
  subst e
  refine⟨by rw[List.map_cons,←h1];simp[txV],fun v hv=>?_⟩
  rcases List.mem_cons.mp hv with rfl | hv
  ·exact⟨_,t,rfl,by simp[txV,Str.length]⟩
  ·exact h2 v hv
theorem ZcW:∀(us:List Value),(∀v∈us,∃y t,v=.str y t)→Vals ((us.map txV).map tx) us
 | [],_=>.nil
 | v::us,h=>by
  obtain⟨y,t,rfl⟩:=h v List.mem_cons_self
  exact .cons ⟨t,by simp[txV]⟩ (ZcW us fun u hu=>h u (List.mem_cons_of_mem _ hu))
theorem Zjk {a b:List Nat}:ltP ((b.length:Nat),b) ((a.length:Nat),a)=false↔¬BefW b a:=by
 rw[Bool.eq_false_iff,Ne,ZeE]
 unfold BefW
 dsimp only
 have e1:((b.length:Int)<(a.length:Int))↔b.length<a.length:=by omega
 have e2:((b.length:Int)=(a.length:Int))↔b.length=a.length:=by omega
 rw[e1,e2]
section
variable {X:Cx}{e:Expr}{ta:TA}{p pos kpos lpos p1 p2 p3 p4 p5:Pos}{k kk:Nat}{c P:Addr}{params:Arguments}{scope:Scope}{x q:Str}
end
def ZkV (o:Obj):Bool:=match o.cls,o.data with
 | .none,.fields _=>true
 | _,_=>false
def ZhU (K:Frag):Bool:=K.all fun p=>!ZkV p.2
theorem Zd0 {K:Frag}(h:ZhU K=true){b:Addr}{o:Obj}(e:K.lookup b=some o):ZkV o=false:=by
 unfold ZhU at h
 rw[List.all_eq_true]at h
 have:∀(l:List (Addr×Obj)),l.lookup b=some o→(b,o)∈l:=fun l=>by
  induction l with
  | nil=>intro e;cases e
  | cons q r ih=>
   intro e
   obtain⟨b',o'⟩:=q
   rw[List.lookup_cons]at e
   by_cases z:b=b'
   ·subst z
    simp at e
    subst e
    exact List.mem_cons_self
   ·have z':(b == b')=false:=by simpa using z
    rw[z']at e
    exact List.mem_cons_of_mem _ (ih e)
 have:=h _ (this K e)
 simpa using this
structure TabOf (mg:Str→Option Value)(h:Heap)(n:Str)(c P:Addr):Prop where
 fn:∃a o fd,mg n=some (.ref a)∧h.get? a=some o∧o.data=.func fd∧fd.code=.ref c
 code:h.IsCode c P #[]
 tab:h.TableAt c P #[]
theorem TabOf.codeEq {mg:Str→Option Value}{h:Heap}{n:Str}{c P a:Addr}{o:Obj}{fd:FuncData}(t:TabOf mg h n c P)(e1:mg n=some (.ref a))(e2:h.get? a=some o)(e3:o.data=.func fd):fd.code=.ref c:=by
 obtain⟨a',o',fd',f1,f2,f3,f4⟩:=t.fn
 rw[e1]at f1;cases f1
 rw[e2]at f2;cases f2
 rw[e3]at f3;cases f3
 exact f4
theorem ZgQ {P:Program}{w:World}{K:PySem.W.Frag}{mg mb:Str→Option Value}{CX:CXT}{k:Nat}{fa a:Addr}{fd:FuncData}{x:Str}{sp:Sp}{s₁:Shared}{vs:List Value}{ns:List Int}{nms:List Str}{tb:Str→Addr×Addr}
  (KX:K.In s₁.heap) (hns:s₁.heap.Ns mainGlobals mg) (hb:s₁.heap.Ns builtinsNs mb) (hbb:∀x:Str,x≠"__name__"→mb x=bootBuiltins x) (hlim:s₁.heap.NoLimit) (hg:s₁.gens=#[])
  (ha:s₁.heap.get? a=some { cls:=.type "list",data:=.seq vs.toArray }) (hi:IntsAre vs ns) (hl:ns.length≤sizeLine) (hr:Room k callerA)
  (hT:∀n∈nms,TabOf mg s₁.heap n (tb n).1 (tb n).2) (hKt:ZhU K=true) (hbm:∃bm ob,mg "__builtins__"=some (.ref bm)∧bm≠builtinsNs∧s₁.heap.get? bm=some ob∧ob.cls=.type "module"∧ob.dict=some builtinsNs∧ob.data=.plain)
  (F:∀base:Heap,K.In base→base.Ns mainGlobals mg→(∀n∈nms,LamEnv base mg (tb n).1 (tb n).2)→FnOk P w K mg base CX k fa fd [x] sp) (hbind:∀(s:Shared) (u:Value),BindsTo s fd ⟨[u],[]⟩ [(x,u)])
  (hsp:∀H:Hp,(∀n∈nms,H (tb n).2=some (.tbl #[]))→SqL K H a (ns.map V.int)→sp [.ref a] H (fun v _=>v=.bl true) fun _ _ _=>False)
  (hCX:∀H e s',CX [] H s₁ (fun _ _ _=>False) e s'→False):
  codeAny (model P w) callerA (.call (.ref fa) ⟨[.ref a],[]⟩) (fun r s'=>r=.ok (.ret (.bool true))∧OldK s₁.heap s'.heap∧s'.os=s₁.os∧AllBare s'.gens) s₁:=by
 have rv:=Zcf hi
 have lenV:=hi.length
 have hta:∀n∈nms,s₁.heap.get? (tb n).2=some (tabObj #[]):=fun n hn=>(hT n hn).tab.2
 have aP:∀n∈nms,(tb n).2≠a:=fun n hn z=>by
  have e:=hta n hn
  rw[z,ha]at e
  have:=congrArg Obj.cls (Option.some.inj e)
  exact absurd (show Value.type "list"=Value.none from this) (by simp)
 let isP:Addr→Prop:=fun b=>∃n∈nms,(tb n).2=b
 have core:∀H:Hp,SqL K H a (ns.map V.int)→HOk P w H s₁.heap→(∀b,H b≠none→(b=a∧∃o xs,H b=some (.frz o (.lst xs)))∨(isP b∧H b=some (.tbl #[])))→(∀b,isP b→H b=some (.tbl #[]))→(H a≠none→K.lookup a=none) →
   codeAny (model P w) callerA (.call (.ref fa) ⟨[.ref a],[]⟩) (fun r s'=>r=.ok (.ret (.bool true))∧OldK s₁.heap s'.heap∧s'.os=s₁.os∧AllBare s'.gens) s₁:=by
  intro H hS hok hA hPt hK
  have base_of:∀ {b:Addr} {o:Obj},s₁.heap.get? b=some o→H b=none→(hidT s₁.heap H).get? b=some o:=fun e n=>Zfl e n
  have noT:∀ {b:Addr} {o:Obj},s₁.heap.get? b=some o→o≠tabObj #[]→o.cls≠.type "list"→H b=none:=fun {b o} e n1 n2=>by
   cases q:H b with
   | none=>rfl
   | some u=>
    rcases hA b (by rw[q];simp) with⟨e',_⟩|⟨⟨n,hn,e'⟩,_⟩
    ·subst e'
     rw[ha]at e;cases e
     exact absurd rfl n2
    ·subst e'
     rw[hta n hn]at e;cases e
     exact absurd rfl n1
  have noA:∀ {b:Addr} {o:Obj} {es:Array DictEntry} {ep:Nat},s₁.heap.get? b=some o→o.data=.dict es ep→H b=none:=fun {b o es ep} e d=>by
   cases q:H b with
   | none=>rfl
   | some u=>
    rcases hA b (by rw[q];simp) with⟨e',_⟩|⟨⟨n,hn,e'⟩,_⟩
    ·subst e'
     rw[ha]at e;cases e
     have d':Data.seq vs.toArray _=Data.dict es ep:=d
     cases d'
    ·subst e'
     rw[hta n hn]at e;cases e
     cases d
  have nsK:∀ {b:Addr} {m:Str→Option Value},s₁.heap.Ns b m→(hidT s₁.heap H).Ns b m:=fun {b m} ⟨o,es,ep,e,d,r⟩=>⟨o,es,ep,base_of e (noA e d),d,r⟩
  have hKb:K.In (hidT s₁.heap H):=fun b o e=>base_of (KX b o e) (by
   cases q:H b with
   | none=>rfl
   | some u=>
    rcases hA b (by rw[q];simp) with⟨e',_⟩|⟨⟨n,hn,e'⟩,_⟩
    ·subst e'
     rw[hK (by rw[q];simp)]at e;cases e
    ·subst e'
     have e1:=KX _ _ e
     rw[hta n hn]at e1
     have e2:=Zd0 hKt e
     rw[←Option.some.inj e1]at e2
     cases e2)
  have hM:Mod K mg (hidT s₁.heap H):=⟨hKb,nsK hns,⟨mb,nsK hb,hbb⟩,let ⟨mc,h1,h2⟩:=hlim;⟨mc,nsK h1,h2⟩⟩
  have e0:Env0 P w K mg (hidT s₁.heap H) callerA [] s₁ H:=⟨rfl,hM,fun b o e=>ZgI e,Nat.le_of_eq (Zd9 _ _),trivial,fun b hb=>absurd (show b∈([]:List Addr) from hb) (by simp),hok,.of_eq hg⟩
  have hL:∀n∈nms,LamEnv (hidT s₁.heap H) mg (tb n).1 (tb n).2:=fun n hn=>by
   obtain⟨bm,ob,b1,b2,b3,b4,b5,b6⟩:=hbm
   obtain⟨oc,vc,file,tf,flags,tg,inF,text,tt,c1,c2,c3,r⟩:=CodeHd.of (hT n hn).code (hT n hn).tab
   refine⟨⟨oc,vc,file,tf,flags,tg,inF,text,tt,base_of c1 (noT c1 (fun z=>by rw[z]at c2;cases c2) (fun z=>by rw[c2]at z;exact absurd z (by decide))),c2,c3,r⟩,bm,ob,b1,b2,fun z=>?_,fun z=>?_,base_of b3 (noT b3 (fun z=>by rw[z]at b4;cases b4) (fun z=>by rw[b4]at z;exact absurd z (by decide))),b4,b5,b6⟩
   ·obtain⟨o,es,ep,e,d,_⟩:=hns
    rw[←z,b3]at e;cases e
    rw[b6]at d;cases d
   ·rw[z,hta n hn]at b3;cases b3
    cases b4
  refine codeAny_mono ((F _ hKb (nsK hns) hL).run callerA [] s₁ H ⟨[.ref a],[]⟩ [.ref a] [.ref a] _ _ hr e0 (hbind s₁ (.ref a)) (.cons rfl .nil) (hsp H (fun n hn=>hPt _ ⟨n,hn,rfl⟩) hS)) fun r s' h=>?_
  cases r with
  | error e=>exact(hCX H e s' h).elim
  | ok fl=>
   cases fl with
   | next=>exact False.elim h
   | brk=>exact False.elim h
   | cont=>exact False.elim h
   | ret u=>
    obtain⟨v,H',os,bare,un,hok',r',q⟩:=h
    have q':v=.bl true:=q
    subst q'
    obtain rfl:u=Value.bool true:=r'
    refine⟨rfl,⟨fun b o e=>?_,fun b o e=>un.there b o e (by simp)⟩,os,bare⟩
    cases q:H b with
    | none=>exact .inl (un.keep b o e q (by intro z;exact absurd (show b∈([]:List Addr) from z) (by simp)) (by simp))
    | some u=>
     rcases hA b (by rw[q];simp) with⟨_,ob,xs,z⟩|⟨⟨n,hn,e'⟩,z⟩
     ·have z2:=un.frzs b ob _ z
      obtain⟨e1,_⟩:=hok b _ z
      obtain⟨e2,_⟩:=hok' b _ z2
      rw[e]at e1;cases e1
      exact .inl e2
     ·obtain⟨more,z2⟩:=un.tbls b _ z
      have e1:s₁.heap.get? b=some (tabObj #[]):=hok b _ z
      have e2:s'.heap.get? b=some (tabObj (#[]++more)):=hok' b _ z2
      rw[e]at e1;cases e1
      exact .inr (.inl ⟨by rw[←e'];exact(hT n hn).tab.isCodeTable,rfl,#[],more,rfl,e2⟩)
 cases hk:K.lookup a with
 | some o=>
  have e:=KX a o hk
  rw[ha]at e
  cases e
  haveI:DecidablePred isP:=fun _=>Classical.propDecidable _
  refine core (fun b=>if isP b then some (.tbl #[]) else none) (.inr ⟨_,vs.toArray,_,hk,rfl,rfl,rfl,by rw[List.size_toArray,lenV];exact hl,by simpa using rv⟩) (fun b u z=>?_) (fun b z=>?_) (fun b hb=>if_pos hb) fun z=>?_
  ·by_cases hb:isP b
   ·have z':=(if_pos hb).symm.trans z
    cases z'
    obtain⟨n,hn,rfl⟩:=hb
    exact hta n hn
   ·have z':=(if_neg hb).symm.trans z
    cases z'
  ·by_cases hb:isP b
   ·exact .inr ⟨hb,if_pos hb⟩
   ·exact absurd (if_neg hb) z
  ·have:¬isP a:=fun ⟨n,hn,e⟩=>aP n hn e
   exact absurd (if_neg this) z
 | none=>
  haveI:DecidablePred isP:=fun _=>Classical.propDecidable _
  refine core (fun b=>if b=a then some (.frz { cls:=.type "list",data:=.seq vs.toArray } (.lst (ns.map V.int))) else if isP b then some (.tbl #[]) else none) (.inl (.inr ⟨{ cls:=.type "list",data:=.seq vs.toArray },if_pos rfl⟩)) (fun b u z=>?_) (fun b z=>?_) (fun b hb=>?_) fun _=>hk
  ·by_cases hb:b=a
   ·have z':=(if_pos hb).symm.trans z
    cases z'
    subst hb
    exact⟨ha,by rw[List.length_map];exact hl,vs,_,rv,ha⟩
   ·have z':=(if_neg hb).symm.trans z
    by_cases hp:isP b
    ·have z2:=(if_pos hp).symm.trans z'
     cases z2
     obtain⟨n,hn,rfl⟩:=hp
     exact hta n hn
    ·have z2:=(if_neg hp).symm.trans z'
     cases z2
  ·by_cases hb:b=a
   ·exact .inl ⟨hb,_,_,if_pos hb⟩
   ·by_cases hp:isP b
    ·exact .inr ⟨hp,by rw[if_neg hb,if_pos hp]⟩
    ·exact absurd (by rw[if_neg hb,if_neg hp]) z
  ·have nb:b≠a:=by obtain⟨n,hn,rfl⟩:=hb;exact aP n hn
   rw[if_neg nb,if_pos hb]
theorem walk_ofT {l:PySem.W.OpenLaw}{n k:Nat}{q:Program}{loose:List Str}{XP:(Str→Option Value)→Heap→Prop}{YP:World→Heap→Prop}{d:DefRec}{K:Params→PySem.W.Frag}{CX:CXT}{sp:PySem.W.Frag→(Str→Addr×Addr)→Sp}{x:Str}(nms:List Str)
  (hn:l.most=some n) (hn2:n≤sizeLine) (hdf:d.params.defaults=[]) (hr:Room k callerA)
  (hY:∀(w:World) (h:Heap),YP w h→(K w.params).In h) (hKt:∀P:Params,ZhU (K P)=true) (hnm:(nms.all fun n=>(recsOf q).any fun e=>e.name == n)=true)
  (F:∀(w:World) (mg:Str→Option Value) (fa:Addr) (h:Heap) (tb:Str→Addr×Addr),(K w.params).In h→h.Ns mainGlobals mg→mg d.name=some (.ref fa)→(∀n∈nms,TabOf mg h n (tb n).1 (tb n).2) →
   ∃fd:FuncData,(∀(s:Shared) (u:Value),BindsTo s fd ⟨[u],[]⟩ [(x,u)]) ∧
    ∀base:Heap,(K w.params).In base→base.Ns mainGlobals mg→(∀n∈nms,LamEnv base mg (tb n).1 (tb n).2)→FnOk l.prog w (K w.params) mg base CX k fa fd [x] (sp (K w.params) tb))
  (hsp:∀(K:PySem.W.Frag) (tb:Str→Addr×Addr) (H:Hp) (a:Addr) (ns:List Int),ns.length≤n→(∀n∈nms,H (tb n).2=some (.tbl #[]))→SqL K H a (ns.map V.int)→sp K tb [.ref a] H (fun v _=>v=.bl true) fun _ _ _=>False)
  (hCX:∀(H:Hp) (s:Shared) (e:Value) (s':Shared),CX [] H s (fun _ _ _=>False) e s'→False):
  PySem.W.WalkO q loose XP YP l.row.toRowW d [] (fun f vs=>PySem.call f vs):=by
 refine Att.attach_call hn hdf fun w s₀ s₁ mg mb fa o pm cd doc a vs ns G Y ho hd hcd hmg hobj hints hlen hg=>?_
 have KX:=hY w _ Y
 have ex:∀n:Str,∃cp:Addr×Addr,n∈nms→TabOf mg s₁.heap n cp.1 cp.2:=fun n=>by
  by_cases h:n∈nms
  ·rw[List.all_eq_true]at hnm
   have:=hnm n h
   rw[List.any_eq_true]at this
   obtain⟨e,he,en⟩:=this
   have en:e.name=n:=by simpa using en
   obtain⟨a',o',fd',c,P,h1,h2,h3,h4,h5,h6⟩:=G.T.tab e he
   exact⟨(c,P),fun _=>⟨⟨a',o',fd',by rw[←en];exact h1,h2,h3,h4⟩,h5,h6⟩⟩
  ·exact⟨(0,0),fun z=>absurd z h⟩
 obtain⟨tb,htb⟩:=Classical.skolem.mp ex
 obtain⟨fd,hb,hF⟩:=F w mg fa _ tb KX G.T.g hmg htb
 exact ZgQ KX G.T.g G.T.b G.T.builtins G.T.nolimit hg hobj hints (Nat.le_trans hlen hn2) hr htb (hKt _) G.T.bmain hF hb (fun H hP hS=>hsp (K w.params) tb H a ns hlen hP hS) fun H e s'=>hCX H s₁ e s'
section
variable {P:Program}{w:World}{K:PySem.W.Frag}{mg:Str→Option Value}{base:Heap}
theorem Fun.okC {x qual:Str}{st:Stmt}{f:Addr}{fd:FuncData}{N ps:List Str}{k:Nat}{sp:Sp}{c:Value}(F:Fun K x qual st f fd)(hc:fd.code=c)(S:FnScope N ps (Zai st))(len:∀vs H Q E,sp vs H Q E→vs.length=ps.length)
  (body:∀(A:Around) (outer:List Env) (s:Shared) (H:Hp) (vs:List V) (Q:VK) (E:XK),Room k (A.deeper (envOfC qual (Zai st) s.heap.objs.size f c))→sp vs H Q E →
   ∃t,PSs (cxOf CX0 P w K mg base N qual (Zai st) f c A outer s H E).nox (Za9 st) t∧t { nx:=fun _ H'=>Q .non H',rt:=Q } (start N vs) H):FnOk P w K mg base CX0 (k+1) f fd ps sp:=by
 obtain⟨⟨oc,od,kV,doc,pm,an,cdv,ct,osl,rfl,l,cc⟩,_⟩:=F
 obtain rfl:cdv=c:=hc
 refine Zk4 l cc S len fun A outer s H vs Q E hr hsp=>?_
 obtain⟨t,h,q⟩:=body A outer s H vs Q E hr hsp
 exact⟨t,h.nox,q⟩
theorem Fun.at {x qual:Str}{st:Stmt}{f:Addr}{fd:FuncData}{h:Heap}(F:Fun K x qual st f fd)(KX:K.In h):∃o,h.get? f=some o∧o.data=.func fd:=by
 obtain⟨⟨oc,od,kV,doc,pm,an,cdv,ct,osl,rfl,l,cc⟩,_⟩:=F
 exact⟨_,KX _ _ l,rfl⟩
end
end L2
namespace L2
open PySem PySem.Spec PyProof.Rows
open PySem.W (Frag)
theorem Zfe {X:Cx}:MtM X "str.find" (fun x vs H Q=>∃l w,x=tx l∧vs=[tx w]∧∀r:Int,((r=-1∧¬Inf w l)∨∃i:Nat,r=(i:Int)∧AtW l w i∧∀j,j<i→¬AtW l w j)→Q (.int r) H):=by
 rintro pins s σ H x vs v us Q I rx rv ⟨l,w,rfl,rfl,q⟩
 obtain⟨t,rfl⟩:=rx
 obtain⟨u,rfl,t',rfl⟩:=rv.one
 refine SC.find ?_
 refine⟨.int _,H,I.tok _,⟨_,rfl⟩,q _ ?_⟩
 rcases find_whole (⟨l.toArray⟩:Str) ⟨w.toArray⟩ with⟨h1,h2⟩|⟨i,h1,h2,h3⟩
 ·exact .inl ⟨h1,fun ⟨i,hi⟩=>h2 i ((Zba l w i).mpr hi)⟩
 ·exact .inr ⟨i,h1,(Zba l w i).mp h2,fun j hj hA=>h3 j hj ((Zba l w j).mpr hA)⟩
section
variable {τ0:St}{tt:TT}{te:TE}{H:Hp}{Q:VK}
theorem CompRun.tup {K:Frag}{a:Addr}{xs:List V}(b:Nat→Bool)(f:Nat→V)(hz:xs.length≤1000)(hx:SqT K H a xs)
  (ht:∀i H' Q' (h:i<xs.length),Same H H'→(∀H'',Same H' H''→Q' (b i) H'')→tt (τ0.set 0 (some (xs.getD i .non))) H' Q')
  (he:∀i H' Q' (h:i<xs.length),b i=true→Same H H'→(∀H'',Same H' H''→Q' (f i) H'')→te (τ0.set 0 (some (xs.getD i .non))) H' Q')
  (hQ:∀p H',Same H H'→H p=none→H' p=some (.lst (((List.range xs.length).filter b).map f))→Q (.ref p) H'):CompRun (Itt K a) τ0 (Zb1 0) tt te H Q:=
 .gen (fun i=>xs.getD i .non) b f hz (fun i H' h s=>⟨xs,xs[i],s.seqT hx,by simp[h]⟩) (fun H' s=>⟨xs,s.seqT hx,Nat.le_refl _⟩) (fun i H' x H3 h s y=>by
  obtain⟨e,y⟩:=y
  refine⟨e,?_⟩
  rw[List.getD_eq_getElem?_getD,y xs (s.seqT hx)];rfl) ht he hQ
end
section
variable {X:Cx}{pos:Pos}
def Zgi (tk tv:TE):TE:=fun σ H Q=>∀p,H p=none→tk σ (upd H p (.dT [])) fun x H1=>tv σ H1 fun y H2=>∃b ks,x=.ref b∧H2 b=some (.tup (ks.map kV))∧H2 p=some (.dT [])∧Q (.ref p) (upd H2 p (.dT [(ks,y)]))
theorem ZgB {k v:Expr}{tk tv:TE}(hu:X.A.units+1<cLine)(hk:PE X k tk)(hv:PE X v tv):PE X (.Dict [some k] [v] pos) (Zgi tk tv):=by
 intro pins s σ H Q I q
 have hn:=I.hok.fresh (Nat.le_refl s.heap.objs.size)
 have I1:=I.laid (a:=s.heap.objs.size) (o:=.dT []) (h':=s.heap.push { cls:=.type "dict",data:=.dict #[] }) (t':=s.toks) (fun _ _ q=>Heap.get?_push_of_some _ q) (Nat.le_refl _) (Zfq s.heap I.big)
 have hl:(pairTrees [some k] [v] X.env pos).length=1:=pairTrees_length _ _ _ _ rfl rfl
 rw[arm_eval_Dict,zip_pairTrees [some k] [v] X.env pos rfl rfl,dictDisplay_pairs _ (by intro e;rw[e]at hl;cases hl) (by rw[hl];decide)]
 refine wpAny_bind (wpAny_standAt (wpAny_bind ?_))
 unfold subDict
 refine wpAny_bind (wpAny_alloc ?_)
 refine wpAny_bind (wpAny_holding ?_)
 rw[if_pos (by rw[hl];decide)]
 refine wpAny_bind (pairTrees_cons_walk (thn (hk pins _ σ _ _ I1 (q _ hn)) fun u s1 ⟨x,H1,I2,rx,q1⟩=>thn (hv pins s1 σ H1 _ I2 q1) fun w s2 ⟨y,H2,I3,ry,b,ks,ex,hb,hp,q2⟩=>pairTrees_nil_walk ?_))
 subst ex
 obtain rfl:u=Value.ref b:=rx
 refine wpAny_holding ?_
 simp only[List.forIn_cons,List.forIn_nil]
 obtain⟨z,hd,xs,rel,dd⟩:=Zif I3.hok hp
 cases rel
 refine wpAny_bind (wpAny_bind (wpAny_bind (wpAny_dictSet_heap (hsz:=Nat.zero_le _) ?room (ZcA I3.hok hb) dd fun h' dd' hs=>wpAny_pure (wpAny_pure (wpAny_pure (wpAny_pure (wpAny_pure ⟨.ref s.heap.objs.size,_,?inv,rfl,q2⟩)))))))
 case room=>exact Nat.lt_of_le_of_lt (Nat.le_succ _) hu
 case inv=>
  obtain⟨qq,es,ep,hq,h2,h3,h4,_,h5⟩:=dd'
  have rel2:=KT.put (k:=ks) (.nil:KT H2 [] []) hb ry
  refine ZcK I3 (by rw[hp];exact True.intro) hs ⟨qq,hq⟩ ⟨by rw[sizeLine_eq];show (1:Nat)≤16777216;decide,hd,_,rel2.keeps fun c ys ec=>?_,qq,es,ep,hq,h2,h3,h4,h5⟩
  rw[Zac (Zjg ec hp (fun z=>nomatch z))]
  exact ec
end
end L2
namespace L2
open PySem PySem.Spec PyProof.Rows PySem.Builtin.Str
theorem ZgJ (x y:Str)(lo:Nat):
  (occurrences x y lo x.length 1=[]∧∀i,lo≤i→¬StrLaws.At x y x.length i)∨∃i r,occurrences x y lo x.length 1=i::r∧lo≤i∧StrLaws.At x y x.length i∧∀k,lo≤k→k<i→¬StrLaws.At x y x.length k:=by
 rw[StrLaws.occ_eq]
 rcases StrLaws.occ_first x y x.length 1 (Nat.le_refl 1) (List.range' lo (x.length+1-lo)) lo (fun i hi=>(List.mem_range'_1.mp hi).1) with⟨h0,hn⟩|⟨pre,a,post,e,h0,ha,hn⟩
 ·refine .inl ⟨by rw[h0],fun i hl hi=>?_⟩
  exact hn i (List.mem_range'_1.mpr ⟨hl,by have:=hi.1;omega⟩) hi
 ·have hal:lo≤a:=by
   have:a∈List.range' lo (x.length+1-lo):=by rw[e];simp
   exact(List.mem_range'_1.mp this).1
  refine .inr ⟨a,((forIn (List.range' lo (x.length+1-lo)) ((#[]:Array Nat),lo) (StrLaws.occBody x y x.length 1)).run.fst.toList).tail,?_,hal,ha,fun k hk hka=>hn k ?_⟩
  ·generalize (forIn (List.range' lo (x.length+1-lo)) ((#[]:Array Nat),lo) (StrLaws.occBody x y x.length 1)).run.fst=arr at h0
   have h1:arr.toList[0]?=some a:=by simpa using h0
   cases hL:arr.toList with
   | nil=>rw[hL]at h1;cases h1
   | cons b t=>rw[hL]at h1;simp at h1;rw[h1];rfl
  ·have hm:k∈List.range' lo (x.length+1-lo):=by
    have:a∈List.range' lo (x.length+1-lo):=by rw[e];simp
    exact List.mem_range'_1.mpr ⟨hk,by have:=(List.mem_range'_1.mp this).2;omega⟩
   rw[e]at hm
   rcases List.mem_append.mp hm with z | z
   ·exact z
   ·exfalso
    have hs:(pre++a::post).Pairwise (· < ·):=by rw[←e];exact List.pairwise_lt_range' ..
    rcases List.mem_cons.mp z with z | z
    ·omega
    ·have:=(List.pairwise_cons.mp (List.pairwise_append.mp hs).2.1).1 k z
     omega
theorem ZhW {X:Cx}:MtM X "str.find" (fun x vs H Q=>∃l w,∃n:Nat,x=tx l∧vs=[tx w,.int n]∧∀r:Int,((r=-1∧∀i,n≤i→¬AtW l w i)∨∃i:Nat,r=(i:Int)∧n≤i∧AtW l w i∧∀j,n≤j→j<i→¬AtW l w j)→Q (.int r) H):=by
 rintro pins s σ H x vs v us Q I rx rv ⟨l,w,n,rfl,rfl,q⟩
 obtain⟨t,rfl⟩:=rx
 cases rv with
 | cons r1 r2=>
  cases r2 with
  | cons r2 r3=>
   cases r3
   obtain⟨t',rfl⟩:=r1
   obtain⟨t2,rfl⟩:=r2
   refine SC.find3 ?_
   refine⟨.int _,H,I.tok _,⟨_,rfl⟩,q _ ?_⟩
   have e:fromIndex (⟨l.toArray⟩:Str).length (n:Int)=n:=by unfold fromIndex;rw[if_neg (by omega)];omega
   unfold Txt.find3
   rw[e]
   rcases ZgJ (⟨l.toArray⟩:Str) ⟨w.toArray⟩ n with⟨h1,h2⟩|⟨i,r,h1,h2,h3,h4⟩
   ·rw[h1];exact .inl ⟨rfl,fun i hi hA=>h2 i hi ((Zba l w i).mpr hA)⟩
   ·rw[h1];exact .inr ⟨i,rfl,h2,(Zba l w i).mp h3,fun j hj hji hA=>h4 j hj hji ((Zba l w j).mpr hA)⟩
section
variable {X:Cx}
end
end L2
namespace L2
open PySem PySem.Spec PyProof.Rows
section
variable {X:Cx}{tg:Expr}
end
section
variable {X:Cx}{pins:List (Addr×Obj)}{σ:St}{H:Hp}{s:Shared}{a:Addr}{kvs:List (Key×V)}{k:Key}{v:V}{u w:Value}{A:Around}{E:Value→Shared→Prop}
end
noncomputable def startsB (l m:List Nat):Bool:=decide (m.length≤l.length)&&decide (l.take m.length=m)
theorem Zgl (l m:List Nat):Txt.startswith ⟨l.toArray⟩ ⟨m.toArray⟩=startsB l m:=by
 unfold Txt.startswith startsB Builtin.Str.subAt
 have e1:(⟨l.toArray⟩:Str).length=l.length:=Zcg l
 have e2:(⟨m.toArray⟩:Str).length=m.length:=Zcg m
 rw[e1,e2,Nat.zero_add]
 have e3:l.toArray.extract 0 m.length=(l.take m.length).toArray:=by
  apply Array.ext'
  simp only[List.extract_toArray,List.extract_eq_take_drop,List.drop_zero,Nat.sub_zero]
 show (decide (m.length≤l.length)&&(l.toArray.extract 0 m.length == m.toArray))=_
 rw[e3]
 congr 1
 rw[Bool.eq_iff_iff,beq_iff_eq,decide_eq_true_iff]
 exact⟨fun z=>by simpa using congrArg Array.toList z,fun z=>by rw[z]⟩
theorem Zbb {l m:List Nat}:startsB l m=true↔m <+: l:=by
 unfold startsB
 rw[Bool.and_eq_true,decide_eq_true_iff,decide_eq_true_iff,List.prefix_iff_eq_take]
 constructor
 ·rintro⟨_,h⟩;exact h.symm
 ·intro h
  exact⟨by have:=congrArg List.length h;rw[List.length_take]at this;omega,h.symm⟩
theorem ZbQ {X:Cx}:MtM X "str.startswith" (fun x vs H Q=>∃l m,x=tx l∧vs=[tx m]∧Q (.bl (startsB l m)) H):=by
 rintro pins s σ H x vs v us Q I rx rv ⟨l,m,rfl,rfl,q⟩
 obtain⟨t,rfl⟩:=rx
 obtain⟨u,rfl,t',rfl⟩:=rv.one
 refine SC.startswith ?_
 rw[Zgl]
 exact⟨.bl _,H,I,rfl,q⟩
end L2
namespace PySem
section
variable {prog:Program}{w:World}{K:Type}[DecidableEq K]{knd:HeapKind prog w K}{A:Around}{E:Value→Shared→Prop}{s:Shared}
theorem Zig {d a:Addr}{xs:List (K×Addr×Value)}{k:K}{v:Value}{Q:Value→Shared→Prop}(hu:knd.room A)(hkey:knd.is s.heap k a)(hm:s.heap.DictOfH knd d xs)
  (h1:∀p,atKey xs k=some p→Q p.2 { s with toks:=s.toks+knd.draws k })
  (h2:atKey xs k=none→∀h',h'.DictOfH knd d (storedH xs k a v)→Heap.SameBut d s.heap h'→Q v { s with heap:=h',toks:=s.toks+knd.draws k })
  (hsz:xs.length≤sizeLine):
  wpAny (model prog w) A (dictSetDefault d (.ref a) v) Q E s:=by
 obtain⟨o,es,ep,ho,hc,hd,he,his,hn⟩:=hm
 unfold dictSetDefault
 try with_reducible refine wpAny_holding ?_
 refine wpAny_bind (knd.pyHash hu hkey ?_)
 refine wpAny_bind (wpAny_dictFind_heap (s:={ s with toks:=s.toks+knd.draws k }) hu hkey ho hd he his hn ?_ ?_)
 ·intro hno
  have hnot:k∉xs.map (·.1):=not_mem_keys_of_get hno
  have hno':=atKey_none_of_get hno
  refine wpAny_bind (wpAny_rule (wpAny_bind (wpAny_updateDictKeys (hz:=by have e:=size_of_entries he;omega) (s:={ s with toks:=s.toks+knd.draws k }) ho hd (wpAny_pure (h2 hno' _ ⟨_,_,ep+1,Heap.get?_update_self _ ho (Obj.isFreed_of_dict (Obj.data_mapDictKeys hd _)),
   hc.mapDictKeys _,Obj.data_mapDictKeys hd _,?_,?_,?_⟩ (Heap.SameBut.update ..))))))
  ·rw[storedH_new (atKey_none_of_get hno)]
   simp[he,entryOfKey]
  ·rw[storedH_new (atKey_none_of_get hno)]
   intro x hx
   rcases List.mem_append.mp hx with hx | hx
   ·exact knd.keeps (his x hx) ho hd (Heap.SameBut.update ..)
   ·simp only[List.mem_singleton]at hx
    subst hx
    exact knd.keeps hkey ho hd (Heap.SameBut.update ..)
  ·rw[storedH_new (atKey_none_of_get hno)]
   rw[List.map_append,List.nodup_append]
   refine⟨hn,by simp,?_⟩
   intro x hx y hy
   simp only[List.map_cons,List.map_nil,List.mem_singleton]at hy
   subst hy
   exact fun e=>hnot (e▸hx)
 ·intro j p hj
  have e:=atKey_of_get hn hj
  refine wpAny_bind (wpAny_dictEntries (s:={ s with toks:=s.toks+knd.draws k }) ho hd ?_)
  rw[entry_at he j,hj]
  exact wpAny_bind (wpAny_rule (wpAny_pure (h1 p e)))
theorem Zhb (knd:HeapKind prog w K){k:K}(d a:Addr)(hd:(d == sysModules)=false)(dflt:Value):
  MeetsIn prog w (Builtin.«dict.setdefault» ⟨[.ref d,.ref a,dflt],[]⟩) (fun A R s=>knd.room A.in1∧knd.is s.heap k a∧∃xs,s.heap.DictOfH knd d xs∧xs.length≤sizeLine ∧
   (∀p,atKey xs k=some p→R (.ok (.ret p.2)) { s with toks:=s.toks+knd.draws k }) ∧
   (atKey xs k=none→∀h',h'.DictOfH knd d (storedH xs k a dflt)→Heap.SameBut d s.heap h'→R (.ok (.ret dflt)) { s with heap:=h',toks:=s.toks+knd.draws k })):=
 .of_wp fun A R s ⟨hu,hkey,xs,hm,hz,h1,h2⟩=>by
  unfold Builtin.«dict.setdefault»
  refine wpAny_bind ?_
  unfold Builtin.Dict.keyAndDefault
  refine wpAny_bind (wpAny_notOrdered_dict hm.typeIs ?_)
  show wpAny _ _ (pure (d,Value.ref a,some dflt)) _ _ s
  refine wpAny_pure ?_
  show wpAny _ _ (if (d == sysModules)=true then _ else (dictSetDefault d (.ref a) dflt >>= _)) _ _ s
  rw[if_neg (by rw[hd];exact Bool.false_ne_true)]
  exact wpAny_bind (Zig hu hkey hm (fun p hp=>wpAny_pure ⟨p.2,rfl,h1 p hp⟩) (fun hn h' hm' hs'=>wpAny_pure ⟨dflt,rfl,h2 hn h' hm' hs'⟩) hz)
end
end PySem
namespace L2
open PySem PySem.Spec PyProof.Rows
section
variable {X:Cx}{pins:List (Addr×Obj)}{σ:St}{H:Hp}{s:Shared}{a b:Addr}{kvs:List (List Key×V)}{k:List Key}{v:V}{w:Value}{A:Around}{E:Value→Shared→Prop}
theorem ZdA {Q:Value→Shared→Prop}(hu:A.units+1<cLine)(I:Inv X pins σ H s)(e:H a=some (.dT kvs))(eb:H b=some (.tup (k.map kV)))(rv:RelV v w)(hz:kvs.length<sizeLine)
  (h1:∀x w' s',valV kvs k=some x→RelV x w'→Inv X pins σ H s'→Q w' s') (h2:valV kvs k=none→∀s',Inv X pins σ (upd H a (.dT (putK kvs k v))) s'→Q w s'):
  wpAny (model X.prog X.w) A (call (.builtin "dict.setdefault") [.ref a,.ref b,w]) Q E s:=by
 obtain⟨z,hd,xs,rel,dd⟩:=Zif I.hok e
 have hzx:xs.length≤sizeLine:=by rw[←Paired.length rel];exact z
 refine call_meetsIn PySem.F.slot_dict_setdefault dd.typeIs PySem.F.entry_dict_setdefault (PySem.F.args_dict_setdefault_3 _ _ _) (Zhb (tupleKind (Zap X.prog X.w)) (k:=k) a b hd w) ⟨tupleKind_room_in1 hu,ZcA I.hok eb,xs,dd,hzx,fun p hp=>?_,fun hn h' dd' hs=>?_⟩
 ·have r:=rel.val k
  rw[hp]at r
  cases hv:valV kvs k with
  | none=>rw[hv]at r;exact(by cases r)
  | some y=>rw[hv]at r;exact h1 y p.2 _ hv (by first | exact r | cases r;assumption) (I.tok _)
 ·have r:=rel.val k
  rw[hn]at r
  have hv:valV kvs k=none:=by
   cases hv:valV kvs k with
   | none=>rfl
   | some y=>rw[hv]at r;exact(by cases r)
  have hl:(putK kvs k v).length≤sizeLine:=by have:=ZaV kvs k v;omega
  obtain⟨q,es,ep,hq,g2,g3,g4,_,g5⟩:=dd'
  refine h2 hv _ (ZcK I (by rw[e];exact True.intro) hs ⟨q,hq⟩ ⟨hl,hd,_,(rel.put k eb rv).keeps fun c ys ec=>?_,q,es,ep,hq,g2,g3,g4,g5⟩)
  rw[Zac (Zjg ec e (fun z=>nomatch z))]
  exact ec
noncomputable def tDSetT (td ty tx:TE):TE:=fun σ H Q=>td σ H fun x H1=>∃a,x=.ref a∧IsD H1 a∧ty σ H1 fun y H2=>tx σ H2 fun z H3=>∃kvs k b,H3 a=some (.dT kvs)∧y=.ref b∧H3 b=some (.tup (k.map kV))∧kvs.length<sizeLine ∧
 (∀v,valV kvs k=some v→Q v H3)∧(valV kvs k=none→Q z (upd H3 a (.dT (putK kvs k z))))
theorem Zbu {o e f:Expr} {td ty tx:TE} {apos cpos:Pos} (hu:X.A.units+1<cLine) (ho:PE X o td) (he:PE X e ty) (hf:PE X f tx) (m:M2 X o "setdefault" apos e f cpos):PE X (.Call (.Attribute o "setdefault" apos) [e,f] [] cpos) (tDSetT td ty tx):=by
 intro pins s σ H Q I h
 refine wpAny_Call_method m.base m.few m.line PySem.F.plainAttrs_dict PySem.F.slot_dict_setdefault PySem.F.type_dict_setdefault (thn (ho pins s σ H _ I h) fun u s1 ⟨x,H1,I1,rx,a,ex,d,q1⟩=>?_)
 subst ex
 obtain rfl:u=Value.ref a:=rx
 obtain⟨t1,t2,_⟩:=ZiA I1 d
 refine⟨t1,t2,?_⟩
 rw[m.trees]
 refine Calls.callWith_builtin rfl (Calls.evalArgs_plain (Calls.spliced_cons (thn (he pins s1 σ H1 _ I1 q1) fun iv s2 ⟨y,H2,I2,ry,q2⟩=>
  Calls.spliced_cons (thn (hf pins s2 σ H2 _ I2 q2) fun fv s3 ⟨z,H3,I3,rz,kvs,k,b,ea,ey,eb,hz,q3,q4⟩=>Calls.spliced_nil ?_))))
 subst ey
 obtain rfl:iv=Value.ref b:=ry
 exact ZdA hu I3 ea eb rz hz (fun x w' s' hv r I4=>⟨x,H3,I4,r,q3 x hv⟩) fun hn s' I4=>⟨z,_,I4,rz,q4 hn⟩
end
end L2
namespace L2
open PySem PySem.Spec PyProof.Rows PySem.W
section
variable {prog:Program}{w:World}{A:Around}{E:Value→Shared→Prop}{s:Shared}
theorem Zew {a g:Addr}{ls:List (Key×Value)}{ep:Nat}{kf:Value→Int×List Nat}{Q:Value→Shared→Prop}(hh:A.in1.handled=none)(hd:(a == sysModules)=false)(eo:s.heap.DictAt (Zap prog w) a ls ep)
  (hc:∀its,Vals (ls.map fun p=>kV p.1) its→KeyCall (model prog w) A.in1.in1 g its kf s) (hN:ls.length≤sizeLine)
  (h:∀(s':Shared) (r:Addr) (its us:List Value) (e:Nat),Vals (ls.map fun p=>kV p.1) its→s.heap.get? r=none→Kp s.heap s'.heap→s'.gens=s.gens→s'.os=s.os→s'.heap.get? r=some (seqObj "list" us.toArray e)→us.Perm its→us.Pairwise (fun x y=>ltP (kf y) (kf x)=false)→Q (.ref r) s'):
  wpAny (model prog w) A (call (.builtin "sorted") [.ref a] [(Str.ofString "key",.ref g)]) Q E s:=by
 refine call_function_entry_kw kind_sorted plain_sorted entry_sorted (ZcR _ _) ?_
 unfold Builtin.«sorted»
 refine wpAny_bind (m:=checkCount "sorted" 1 1 _) (wpAny_pure ?_)
 refine wpAny_bind (Zeg hh hd eo hN fun s1 its k1 g1 o1 hv=>?_)
 have hl:its.length≤sizeLine:=by have:=hv.length;rw[List.length_map]at this;omega
 have nw:s.heap.get? s1.heap.objs.size=none:=by
  cases z:s.heap.get? s1.heap.objs.size with
  | none=>rfl
  | some o=>exact absurd (Heap.lt_size (k1 _ _ z)) (Nat.lt_irrefl _)
 refine wpAny_bind (wpAny_newList ?_ hl)
 have hoL:(s1.heap.push (seqObj "list" its.toArray 0)).get? s1.heap.objs.size=some (seqObj "list" its.toArray 0):=Heap.get?_push_size _ rfl
 refine wpAny_bind (wpAny_holding (wpAny_call_entry_kw slot_list_sort ⟨_,hoL,rfl⟩ entry_list_sort (ZfH (s0:=s) (hc its hv) (fun b o e=>Heap.get?_push_of_some _ (k1 b o e)) g1 o1 nw hoL hl fun s' us e k2 e1 e2 e3 e4 e5=>⟨_,rfl,?_⟩) (ZbU _ _)))
 exact wpAny_pure ⟨_,rfl,h s' _ its us e hv nw k2 e1 e2 e3 e4 e5⟩
end
def Zgh (P:Addr)(lpos:Pos)(q:Str)(ta:TA):TE:=fun σ H Q=>ta σ H fun vs H1=>∃(a:Addr) (kvs:List (Key×V)) (ws:List (List Nat)),vs=[.ref a]∧H1 a=some (.dK kvs)∧kvs.map (·.1)=ws.map kTx∧(∀w∈ws,w.length≤sizeLine)∧TblOk H1 P lpos q ∧
 ∀(ws':List (List Nat)) (r:Addr) (H2:Hp),ws'.Perm ws→ws'.Pairwise (fun a b=>¬BefW b a)→SameT lpos H1 H2→TblOk H2 P lpos q→H1 r=none→H2 r=some (.lst (ws'.map tx))→Q (.ref r) H2
section
variable {X:Cx}{e:Expr}{ta:TA}{p pos kpos lpos p1 p2 p3 p4 p5:Pos}{k kk:Nat}{c P:Addr}{params:Arguments}{scope:Scope}{x q:Str}
theorem ZdV (hr:Room k X.A) (hcm:X.calm=true) (L:LamEnv X.base X.mg c P) (hcode:X.env.code=.ref c) (hg:Gl X "sorted") (hm:X.mg "sorted"=none) (hlen:X.mg "len"=none) (ha:PA X [e] ta) (hcl:closureFor scope X.env=pure []) (hdef:defaultsOf params X.env=([],[])) (hq:X.env.qual++"<lambda>"=q)
  (S:LamSc scope x) (hb:∀(s:Shared) (u pm cv ctv:Value),BindsTo s (kla_fn "<lambda>" q params (Zcx x p1 p2 p3 p4 p5 kk) scope [] pm cv ctv) ⟨[u],[]⟩ [(x,u)])
  (he:backTo pos (starEach [e] X.env)=(false,eval e X.env)::backTo pos (starEach [] X.env):=by rfl) (hpl:(backTo pos (starEach [e] X.env)).any (·.1)=false:=by rfl):
  PE X (.Call (.Name "sorted" p) [e] [⟨some "key",.Lambda params (Zcx x p1 p2 p3 p4 p5 kk) scope lpos,kpos⟩] pos) (Zgh P lpos q ta):=by
 intro pins s σ H Q I h
 refine wpAny_Call_Name_kw (Zcy I hg hm Zf4 ?_)
 refine PyProof.Rows.callWith_kw (thn (ha pos pins s σ H _ I h) fun us s1 ⟨vs,H1,I1,r1,q1⟩=>?_) he hpl
 obtain⟨a,kvs,ws,rfl,hH,hkw,hw,T,q⟩:=q1
 show wpAny _ _ (evalAll ((do let v ←eval (.Lambda params (Zcx x p1 p2 p3 p4 p5 kk) scope lpos) X.env;standAt pos;pure v)::[])) _ _ s1
 refine wpAny_evalAll_cons (wpAny_bind (ZgS I1 L hcode hcl hdef hq T fun g H2 s2 cv ctv pm sl T2 fr I2 ho hcd=>wpAny_bind (wpAny_standAt (wpAny_pure (wpAny_evalAll_nil ?_)))))
 obtain⟨u,rfl,ru⟩:=r1.one
 cases ru
 have hH2:=sl.1 _ _ hH rfl
 obtain⟨z,y,vs,rr,o,es,ep,eo⟩:=(Rd.of hH2).ok I2.hok
 have hm2:s2.heap.DictAt (Zap X.prog X.w) a vs ep:=⟨o,es,eo⟩
 have ev:(vs.map fun p=>kV p.1)=ws.map tx:=by
  have e1:(vs.map fun p=>kV p.1)=(vs.map (·.1)).map kV:=by rw[List.map_map];rfl
  rw[e1,←rr.keys,hkw,List.map_map]
  rfl
 have hN:vs.length≤sizeLine:=by rw[←rr.length];exact z
 obtain⟨mb,b1,b2⟩:=I2.mod.blt
 have key:=fun (its:List Value) (hv:Vals (vs.map fun p=>kV p.1) its)=>Zjo (prog:=X.prog) (w:=X.w) (A:=X.A.in1.in1) (vs:=its) ho rfl hcd S (fun s u=>hb s u pm cv ctv) (show X.A.depth<recursionLimit by have:=hr.dp;omega) (I2.mod.nolimit.keeps I2.bk) (I2.mod.glob.keeps I2.bk) hlen (b1.keeps I2.bk) (b2 _ (by decide)) (fun v hvm=>by
  rw[ev]at hv
  obtain⟨ew,hs⟩:=Zet hv
  obtain⟨y,t,e1,e2⟩:=hs v hvm
  exact⟨y,t,e1,by rw[e2];exact hw _ (by rw[ew];exact List.mem_map_of_mem hvm)⟩)
 refine Zew (by first | exact I2.ok.hd hcm | simpa using I2.ok.hd hcm) y hm2 key hN fun s' r' its us e hv nr kp g1 o1 er pm2 pw=>?_
 rw[ev]at hv
 obtain⟨ew,hs⟩:=Zet hv
 have hs2:∀v∈us,∃y t,v=.str y t∧y.length=(txV v).length:=fun v hv=>hs v (pm2.mem_iff.mp hv)
 have rv:Vals ((us.map txV).map tx) us:=ZcW us fun v hv=>let ⟨y,t,e,_⟩:=hs2 v hv;⟨y,t,e⟩
 have hl2:us.length=its.length:=pm2.length_eq
 have hl3:its.length=vs.length:=by have h1:=hv.length;rw[←ev,List.length_map]at h1;omega
 have fr':H1 r'=none:=fr _ (I2.hok.none_of nr)
 have J:=I2.laid2 (s':=s') (a:=r') (o:=.lst ((us.map txV).map tx)) o1 g1 kp nr ⟨by rw[List.length_map,List.length_map];omega,us,e,rv,er⟩
 have hr2:=I2.hok.none_of nr
 refine⟨.ref r',_,J,rfl,q (us.map txV) r' _ (by rw[ew];exact pm2.map _) ?_ (sl.then (ZaA hr2)) (T2.same (ZaA hr2)) fr' Zaf⟩
 rw[List.pairwise_map]
 refine pw.imp_of_mem fun {y z} hy hz e=>?_
 rw[←Zjk]
 obtain⟨y1,t1,e1,e2⟩:=hs2 y hy
 obtain⟨z1,t2,e3,e4⟩:=hs2 z hz
 subst e1 e3
 have f1:kfT (.str y1 t1)=((((txV (.str y1 t1)).length:Nat):Int),txV (.str y1 t1)):=by rw[←e2];rfl
 have f2:kfT (.str z1 t2)=((((txV (.str z1 t2)).length:Nat):Int),txV (.str z1 t2)):=by rw[←e4];rfl
 rw[f1,f2]at e
 exact e
end
section
variable {X:Cx}{o:Expr}{td:TE}{p pos ap cp:Pos}
end
end L2
namespace L2
open PySem PySem.Spec PyProof.Rows
section
variable {X:Cx}{es:List Expr}{x1:Nat}{tp:Pos}
end
end L2
namespace L2
open PySem PySem.Spec PyProof.Rows PySem.W
section
variable {X:Cx}{tg:Expr}{o:Expr}{td:TE}{ap cp:Pos}
variable {els:List Expr}{x1:Nat}{tp:Pos}
end
section
variable {g:TG}{tb:TS}{D:Ends}{σ:St}{H:Hp}{o:Obj}{kvs:List (Key×V)}{a:Addr}
end
section
variable {Q:VK}{τ0:St}{H:Hp}{o:Obj}{kvs:List (Key×V)}{a:Addr}{te:TE}
end
end L2
namespace PySem
noncomputable def RawD (h:Heap) (d:Addr) (es:Array DictEntry) (ep:Nat):Prop:=∃o,h.get? d=some o∧o.ExactDict∧o.data=.dict es ep
section
variable {prog:Program}{w:World}{A:Around}{E:Value→Shared→Prop}{s:Shared}{d v it i ep:Nat}{es:Array DictEntry}
theorem Zez (d:Addr)(hd:(d == sysModules)=false):MeetsIn prog w (Builtin.«dict.values» ⟨[.ref d],[]⟩) (fun _ R s=>s.TypeIs (.ref d) "dict"∧R (.ok (.ret (.ref s.heap.objs.size))) { s with heap:=s.heap.push { cls:=.type "dict_values",data:=.fields #[.ref d] } }):=
 .of_wp fun A R s ⟨ht,h⟩=>by
  refine wpAny_bind ?_
  unfold Builtin.Dict.noArgs
  refine wpAny_bind (wpAny_notOrdered_dict ht ?_)
  show wpAny _ _ (pure d) _ _ s
  refine wpAny_pure ?_
  show wpAny _ _ (Builtin.Dict.showsAll d >>= _) _ _ s
  unfold Builtin.Dict.showsAll
  rw[if_neg (by rw[hd];exact Bool.false_ne_true)]
  exact wpAny_bind (wpAny_pure (wpAny_bind (wpAny_newObj_type (wpAny_pure ⟨_,rfl,h⟩))))
theorem Zgt {Q:Value→Shared→Prop}(hv:s.heap.IsValuesView v d)(hm:RawD s.heap d es ep)
  (hQ:Q (.ref s.heap.objs.size) { s with heap:=s.heap.push { cls:=.type "dict_valueiterator",data:=.fields #[.ref d,.int 0 0,.int es.size 0,.int ep 0] } }):wpAny (model prog w) A (pyIter (.ref v)) Q E s:=by
 obtain⟨ov,hov,hcv,hdv⟩:=id hv
 obtain⟨o,ho,hc,hdat⟩:=id hm
 refine wpAny_pyIter_slot hv.typeIs F.slot_dict_values_iter (wpAny_call_entry F.slot_dict_values_iter hv.typeIs F.entry_dict_values_iter ?_ (F.args_dict_values_iter_1 _))
 unfold Builtin.«dict_values.__iter__»
 refine wpAny_bind (wpAny_pure (wpAny_bind ?_))
 unfold Builtin.Dict_items.dictOf
 refine wpAny_bind (wpAny_field hov hdv (x:=.ref d) rfl (wpAny_pure (wpAny_bind ?_)))
 unfold Builtin.Dict_items.newIterator
 refine wpAny_bind (wpAny_dictEntries ho hdat (wpAny_bind (wpAny_dictEpoch ho hdat ?_)))
 have hown:Builtin.Dict_items.ownsTuple "dict_valueiterator"=false:=by decide
 simp only[hown,Bool.false_eq_true,if_false]
 refine wpAny_newObj_type (wpAny_pure ⟨_,rfl,"dict_valueiterator",_,⟨_,Heap.get?_push_size _ rfl,rfl⟩,F.slot_dict_valueiterator_next.lookup,?_⟩)
 simpa [rawInt] using hQ
theorem Zgu {e:DictEntry}{Q:Option Value→Shared→Prop}(hit:s.heap.IsValIter it d i es.size ep)(hm:RawD s.heap d es ep)(hx:es[i]?=some e)
  (hQ:∀h',h'.IsValIter it d (i+1) es.size ep→Heap.SameBut it s.heap h'→Q (some e.val) { s with heap:=h' }):wpAny (model prog w) A (pyNext (.ref it)) Q E s:=by
 obtain⟨o,ho,hc,hd⟩:=id hit
 obtain⟨od,hod,hcd,hdd⟩:=id hm
 unfold pyNext
 refine wpAny_bind (wpAny_attempt (wpAny_callSpecial?_slot (name:=Str.ofString "__next__") hit.typeIs F.slot_dict_valueiterator_next
  (wpAny_call_entry F.slot_dict_valueiterator_next hit.typeIs F.entry_dict_valueiterator_next ?_ (F.args_dict_valueiterator_next_1 _))))
 refine wpAny_bind (wpAny_pure (wpAny_bind (wpAny_bind ?_)))
 first | refine wpAny_bind (wpAny_typeNameOfWhole_valiter hit.typeIs (wpAny_pure ?_)) | refine wpAny_bind (wpAny_typeNameOf_valiter hit.typeIs (wpAny_pure ?_))
 refine wpAny_bind (wpAny_fieldsOf ho hd ?_)
 have hown:Builtin.Dict_items.ownsTuple "dict_valueiterator"=false:=by decide
 simp only[hown,Bool.false_eq_true,if_false]
 show wpAny _ _ (if (Value.ref d == Value.none)=true then _ else _) _ _ s
 rw[if_neg (show ¬((Value.ref d == Value.none)=true) from Bool.false_ne_true)]
 refine wpAny_bind (wpAny_pure (wpAny_bind (wpAny_dictEntries hod hdd ?_)))
 rw[if_neg (by simp)]
 refine wpAny_bind (wpAny_pure (wpAny_bind (wpAny_dictEpoch hod hdd ?_)))
 rw[if_neg (by simp)]
 refine wpAny_pure ?_
 simp only[show ¬((i:Int)<0) from by omega,if_false,Int.toNat_natCast,hx]
 refine wpAny_bind ?_
 first | refine wpAny_bind (wpAny_typeNameOfWhole_valiter hit.typeIs (wpAny_pure ?_)) | refine wpAny_bind (wpAny_typeNameOf_valiter hit.typeIs (wpAny_pure ?_))
 refine wpAny_bind (wpAny_isOneOf_valiter hit.typeIs ?_)
 show wpAny _ _ (setField (.ref it) 1 (rawInt ((i:Int)+1)) >>= _) _ _ s
 refine wpAny_bind (wpAny_setField ho hd (by simp) ?_)
 have hit':(s.heap.update it (Obj.mapFields (·.setIfInBounds 1 (rawInt ((i:Int)+1))))).IsValIter it d (i+1) es.size ep:=
  ⟨_,Heap.get?_update_self _ ho (Obj.isFreed_of_fields (Obj.data_mapFields hd _)),(Obj.cls_mapFields ..).trans hc,by rw[Obj.data_mapFields hd];simp[rawInt]⟩
 refine wpAny_bind (wpAny_holding ?_)
 refine wpAny_bind (wpAny_isOneOf_valiter (s:={ s with heap:=s.heap.update it (Obj.mapFields (·.setIfInBounds 1 (rawInt ((i:Int)+1)))) }) hit'.typeIs ?_)
 refine wpAny_bind (wpAny_isOneOf_valiter (s:={ s with heap:=s.heap.update it (Obj.mapFields (·.setIfInBounds 1 (rawInt ((i:Int)+1)))) }) hit'.typeIs ?_)
 show wpAny _ _ (pure e.val) _ _ _
 exact wpAny_pure (wpAny_pure ⟨_,rfl,wpAny_pure (hQ _ hit' (Heap.SameBut.update ..))⟩)
theorem ZhL {Q:Option Value→Shared→Prop}(hh:A.handled=none)(hit:s.heap.IsValIter it d i es.size ep)(hm:RawD s.heap d es ep)(hx:es.size≤i)
  (hQ:∀h',Heap.ExtBut it s.heap h'→Q none { s with heap:=h' }):wpAny (model prog w) A (pyNext (.ref it)) Q E s:=by
 obtain⟨o,ho,hc,hd⟩:=id hit
 obtain⟨od,hod,hcd,hdd⟩:=id hm
 unfold pyNext
 refine wpAny_bind (wpAny_attempt (wpAny_callSpecial?_slot (name:=Str.ofString "__next__") hit.typeIs F.slot_dict_valueiterator_next
  (wpAny_call_entry F.slot_dict_valueiterator_next hit.typeIs F.entry_dict_valueiterator_next ?_ (F.args_dict_valueiterator_next_1 _))))
 refine wpAny_bind (wpAny_pure (wpAny_bind (wpAny_bind ?_)))
 first | refine wpAny_bind (wpAny_typeNameOfWhole_valiter hit.typeIs (wpAny_pure ?_)) | refine wpAny_bind (wpAny_typeNameOf_valiter hit.typeIs (wpAny_pure ?_))
 refine wpAny_bind (wpAny_fieldsOf ho hd ?_)
 have hown:Builtin.Dict_items.ownsTuple "dict_valueiterator"=false:=by decide
 simp only[hown,Bool.false_eq_true,if_false]
 show wpAny _ _ (if (Value.ref d == Value.none)=true then _ else _) _ _ s
 rw[if_neg (show ¬((Value.ref d == Value.none)=true) from Bool.false_ne_true)]
 refine wpAny_bind (wpAny_pure (wpAny_bind (wpAny_dictEntries hod hdd ?_)))
 rw[if_neg (by simp)]
 refine wpAny_bind (wpAny_pure (wpAny_bind (wpAny_dictEpoch hod hdd ?_)))
 rw[if_neg (by simp)]
 refine wpAny_pure ?_
 simp only[show ¬((i:Int)<0) from by omega,if_false,Int.toNat_natCast,Array.getElem?_eq_none hx]
 refine wpAny_bind ?_
 first | refine wpAny_bind (wpAny_typeNameOfWhole_valiter hit.typeIs (wpAny_pure ?_)) | refine wpAny_bind (wpAny_typeNameOf_valiter hit.typeIs (wpAny_pure ?_))
 show wpAny _ _ (setField (.ref it) 0 .none >>= _) _ _ s
 refine wpAny_bind (wpAny_setField ho hd (by simp) ?_)
 show wpAny _ _ (newExc (.type "StopIteration") [] >>= _) _ _ _
 refine wpAny_bind ?_
 simp only[newExc,newTuple]
 refine wpAny_bind (wpAny_newObj_type ?_ (by size_fits))
 refine wpAny_bind (m:=firstArgMember _ _) (wpAny_of_eq (a:=Value.none) (by first | rfl | (simp only[firstArgMember];rfl)) ?_)
 refine wpAny_newObj_type ?_ (by size_fits)
 simp only[raiseNew]
 refine wpAny_bind (wpAny_handled ?_)
 rw[show A.in1.handled=none from hh]
 refine wpAny_bind (wpAny_pure (wpAny_throw ?_))
 refine wpAny_bind (wpAny_isInstance (T:="StopIteration") (b:=true) ⟨_,Heap.get?_push_size _ rfl,rfl⟩ isSubtype_stop ?_)
 exact wpAny_pure (hQ _ (((Heap.SameBut.update ..).extBut.push _).push _))
theorem RawD.at {h h':Heap}(x:RawD h d es ep)(e:∀o,h.get? d=some o→h'.get? d=some o):RawD h' d es ep:=let ⟨o,ho,r⟩:=x;⟨o,e _ ho,r⟩
theorem ZfL (hh:A.handled=none)(I d:Addr)(hne:d≠I)(es:Array DictEntry)(ep:Nat):
  Walks prog w A I [I,d] [I] es.size (fun i v=>∃e,es[i]?=some e∧v=e.val) (fun i h=>h.IsValIter I d i es.size ep∧RawD h d es ep) where
 sub:=fun b hb=>by simp at hb;simp[hb]
 frame:=fun _ _ _ st hk=>⟨st.1.at fun o e=>hk I (by simp) o e,st.2.at fun o e=>hk d (by simp) o e⟩
 item:=fun i s Q E hi st hQ=>Zgu st.1 st.2 (Array.getElem?_eq_getElem hi) fun h' hit' hs'=>hQ _ h' s.toks ⟨_,Array.getElem?_eq_getElem hi,rfl⟩ ⟨hit',st.2.at fun o e=>(hs'.2 d hne).trans e⟩ fun b o hb e=>hs'.extBut b o (fun h=>hb (by simp[h])) e
 done:=fun s Q E st hQ=>ZhL hh st.1 st.2 (Nat.le_refl _) fun h' he'=>hQ h' s.toks fun b o hb e=>he' b o (fun h=>hb (by simp[h])) e
 self:=fun _ _ _ _ st hQ=>wpAny_pyIter_valiter st.1 hQ
theorem ZhK {r d:Addr}{es:Array DictEntry}{ep:Nat}:PySem.W.KdlSrc prog w "dict_values" r d es.size (fun i v=>∃e,es[i]?=some e∧v=e.val) (fun h=>h.IsValuesView r d∧RawD h d es ep) where
 type:=fun _ hm=>hm.1.typeIs
 there:=fun _ hm=>⟨let ⟨_,ho,_⟩:=hm.1;Heap.lt_size ho,let ⟨_,ho,_⟩:=hm.2;Heap.lt_size ho⟩
 keep:=fun _ _ hm hk=>⟨let ⟨o,ho,x⟩:=hm.1;⟨o,hk r (.inl rfl) o ho,x⟩,hm.2.at fun o e=>hk d (.inr rfl) o e⟩
 notList:=by decide
 notTuple:=by decide
 hint:=fun _ _ _ _ hm hq=>PySem.W.kdl_hint_values hm.1.typeIs hq
 iter:=fun _ _ hh hm=>⟨_,_,(fun _ _ hq=>Zgt hm.1 hm.2 hq),ZfL hh _ d (Nat.ne_of_lt (let ⟨_,ho,_⟩:=hm.2;Heap.lt_size ho)) es ep,⟨⟨_,Heap.get?_push_size _ rfl,rfl,rfl⟩,hm.2.at fun o e=>Heap.get?_push_of_some _ e⟩⟩
end
end PySem
namespace L2
open PySem PySem.Spec PyProof.Rows PySem.W
noncomputable def tListVT (td:TE):TE:=fun σ H Q=>td σ H fun x H1=>∃(a:Addr) (kvs:List (List Key×V)),x=.ref a∧H1 a=some (.dT kvs)∧NewL (kvs.map (·.2)) H1 Q
theorem KT.at {H:Hp}{kvs:List (List Key×V)}{xs:List (List Key×Addr×Value)}(r:KT H kvs xs):∀(i:Nat) (x:List Key×V) (u:List Key×Addr×Value),kvs[i]?=some x→xs[i]?=some u→RelV x.2 u.2.2:=by
 induction r with
 | nil=>intro i x u h;simp at h
 | cons hd _ ih=>
  intro i x u h1 h2
  cases i with
  | zero=>
   have e1:=Option.some.inj h1
   have e2:=Option.some.inj h2
   rw[←e1,←e2]
   exact hd.2.2
  | succ i=>exact ih i x u (by simpa using h1) (by simpa using h2)
section
variable {X:Cx}{o:Expr}{td:TE}{p pos ap cp:Pos}
theorem ZdW (hc:X.calm=true) (hg:Gl X "list") (hm:X.mg "list"=none) (ho:PE X o td) (hbase:attributeBase o "values" X.env (eval o X.env)=eval o X.env:=by rfl) (hline:(ap.endLine == cp.line)=true:=by rfl)
  (hs:starEach [.Call (.Attribute o "values" ap) [] [] cp] X.env=[(false,eval (.Call (.Attribute o "values" ap) [] [] cp) X.env)]:=by rfl):
  PE X (.Call (.Name "list" p) [.Call (.Attribute o "values" ap) [] [] cp] [] pos) (tListVT td):=by
 intro pins s σ H Q I h
 refine wpAny_Call_Name_kw (Zcy I hg hm Zhm ?_)
 refine PyProof.Rows.callWith_type1 ?_ hs rfl
 rw[hs]
 show wpAny _ _ (spliced [(false,eval (.Call (.Attribute o "values" ap) [] [] cp) X.env)]) _ _ s
 refine Calls.spliced_cons ?_
 refine wpAny_Call_method (T:="dict") (id:="dict.values") hbase rfl hline PySem.F.plainAttrs_dict PySem.F.slot_dict_values PySem.F.type_dict_values (thn (ho pins s σ H _ I h) fun u s1 ⟨x,H1,I1,rx,a,kvs,ex,ha,q⟩=>?_)
 subst ex
 obtain rfl:u=Value.ref a:=rx
 obtain⟨hz,hd,xs,r,dd⟩:=Zif I1.hok ha
 obtain⟨ob,es,ep,e1,e2,e3,e4,e5⟩:=id dd
 refine⟨dd.typeIs,fun b z=>?_,?_⟩
 ·cases z
  exact⟨ob,e1,e2.2.1⟩
 refine method_meetsIn PySem.F.slot_dict_values PySem.F.entry_dict_values rfl (PySem.evalArgs_none ⟨rfl,dd.typeIs,PySem.F.args_dict_values_1 _,_,Zez a hd,dd.typeIs,Calls.spliced_nil ?_⟩)
 have I2:Inv X pins σ H1 { s1 with heap:=s1.heap.push { cls:=.type "dict_values",data:=.fields #[.ref a] } }:=I1.kept (t':=s1.toks) fun b o e=>Heap.get?_push_of_some _ e
 have hl:es.size=kvs.length:=by
  have h1:=congrArg List.length e4
  rw[List.length_map,Array.length_toList]at h1
  rw[h1,←Paired.length r]
 refine kdl_call (ZhK (d:=a) (es:=es) (ep:=ep)) (by simpa using I2.ok.hd hc) ⟨⟨_,Heap.get?_push_size _ rfl,rfl,rfl⟩,ob,Heap.get?_push_of_some _ e1,e2,e3⟩ (by rw[hl];exact hz) fun h' tk acc' c' hk hS hacc=>?_
 have hv:Vals (kvs.map (·.2)) acc'.toList:=by
  refine ZbG (by rw[List.length_map,←hl];exact(Array.length_toList.trans hacc.1).symm) fun i x u h1 h2=>?_
  rw[Array.getElem?_toList]at h2
  obtain⟨e,he,rfl⟩:=hacc.2 i u h2
  rw[entry_at e4]at he
  rw[List.getElem?_map]at h1
  cases hx:kvs[i]? with
  | none=>rw[hx]at h1;cases h1
  | some y=>
   rw[hx]at h1
   cases h1
   cases hu:xs[i]? with
   | none=>rw[hu]at he;cases he
   | some z=>
    rw[hu]at he
    cases he
    exact KT.at r i y z hx hu
 exact⟨.ref _,_,I2.laid (t':=tk) (o:=.lst (kvs.map (·.2))) hk (Nat.le_refl _) ⟨by rw[List.length_map];exact hz,acc'.toList,c',hv,by rw[Array.toArray_toList];exact hS⟩,rfl,q _ I2.fresh⟩
end
end L2
namespace L2
open PySem PySem.Spec PyProof.Rows
section
variable {tt:TT}{te:TE}{Q:VK}{τ0:St}{H:Hp}{o:Obj}{kvs:List (Key×V)}{a:Addr}
theorem CompRun.keys (b:Nat→Bool)(f:Nat→V)(hz:kvs.length≤100000)(hx:H a=some (.frz o (.dK kvs)))
  (ht:∀i p H' Q',kvs[i]?=some p→Same H H'→(∀H'',Same H' H''→Q' (b i) H'')→tt (τ0.set 0 (some (kV p.1))) H' Q')
  (he:∀i p H' Q',kvs[i]?=some p→b i=true→Same H H'→(∀H'',Same H' H''→Q' (f i) H'')→te (τ0.set 0 (some (kV p.1))) H' Q')
  (hQ:∀p H',Same H H'→H p=none→H' p=some (.lst (((List.range kvs.length).filter b).map f))→Q (.ref p) H'):CompRun (Itd o kvs a) τ0 (Zb1 0) tt te H Q:=by
 intro acc ha
 refine⟨fun i m τ H2=>i≤kvs.length∧m=kvs.length-i∧(∀w:Option V,τ.set 0 w=τ0.set 0 w)∧Same H H2∧H2 acc=some (.lst (((List.range i).filter b).map f)),⟨kvs.length,Nat.zero_le _,rfl,fun _=>rfl,ZaA ha,Zaf⟩,?_⟩
 rintro i m τ H2 ⟨hi,rfl,hτ,hs,hacc⟩
 by_cases hlt:i<kvs.length
 ·refine .inr ⟨⟨hs _ _ hx,hlt⟩,fun τ' H'=>(∀w:Option V,τ'.set 0 w=τ0.set 0 w)∧Same H H'∧H' acc=some (.lst (((List.range (i+1)).filter b).map f)),fun τ' H' q=>⟨kvs.length-(i+1),by omega,hlt,rfl,q⟩,fun x H3 y=>?_⟩
  obtain⟨rfl,p,hp,rfl⟩:=y
  show tt (τ.set 0 (some (kV p.1))) _ _
  rw[hτ]
  have hτ':∀w:Option V,(τ0.set 0 (some (kV p.1))).set 0 w=τ0.set 0 w:=fun w=>by rw[List.set_set]
  refine ht i p _ _ hp hs fun H4 s4=>?_
  cases hb:b i with
  | false=>
   rw[if_neg Bool.false_ne_true]
   refine⟨hτ',hs.trans s4,?_⟩
   rw[s4 _ _ hacc,List.range_succ,List.filter_append]
   simp[hb]
  | true=>
   rw[if_pos rfl]
   refine he i p _ _ hp hb (hs.trans s4) fun H5 s5=>⟨_,s5 _ _ (s4 _ _ hacc),?_,hτ',same_upd3' ha ((hs.trans s4).trans s5),?_⟩
   ·rw[List.length_map]
    have:=List.length_filter_le b (List.range i)
    rw[List.length_range]at this
    rw[sizeLine_eq];omega
   ·rw[Zaf,List.range_succ,List.filter_append]
    simp[hb]
 ·have e:i=kvs.length:=by omega
  subst e
  exact .inl ⟨⟨hs _ _ hx,Nat.le_refl _⟩,hQ acc H2 hs ha hacc⟩
end
section
variable {te:TE}{Q:VK}{τ0:St}{H:Hp}
theorem CompRun.rangeL {lo:Int}{n:Nat}(f:Nat→V)(hz:n≤100000)
  (he:∀(i:Nat) H' Q',i<n→Same H H'→(∀H'',Same H' H''→Q' (f i) H'')→te (τ0.set 0 (some (.int (lo+i)))) H' Q')
  (hQ:∀p H',Same H H'→H p=none→H' p=some (.lst ((List.range n).map f))→Q (.ref p) H'):CompRun (Itr lo n) τ0 (Zb1 0) tAll te H Q:=by
 intro acc ha
 refine⟨fun i m τ H2=>i≤n∧m=n-i∧(∀w:Option V,τ.set 0 w=τ0.set 0 w)∧Same H H2∧H2 acc=some (.lst ((List.range i).map f)),⟨n,Nat.zero_le _,rfl,fun _=>rfl,ZaA ha,Zaf⟩,?_⟩
 rintro i m τ H2 ⟨hi,rfl,hτ,hs,hacc⟩
 by_cases hlt:i<n
 ·refine .inr ⟨hlt,fun τ' H'=>(∀w:Option V,τ'.set 0 w=τ0.set 0 w)∧Same H H'∧H' acc=some (.lst ((List.range (i+1)).map f)),fun τ' H' q=>⟨n-(i+1),by omega,hlt,rfl,q⟩,fun x H3 y=>?_⟩
  obtain⟨rfl,rfl⟩:=y
  unfold Zb1 tAll
  dsimp only
  rw[if_pos rfl,hτ]
  have hτ':∀w:Option V,(τ0.set 0 (some (.int (lo+i)))).set 0 w=τ0.set 0 w:=fun w=>by rw[List.set_set]
  refine he i _ _ hlt hs fun H5 s5=>⟨_,s5 _ _ hacc,by rw[List.length_map,List.length_range,sizeLine_eq];omega,hτ',same_upd3' ha (hs.trans s5),?_⟩
  rw[Zaf,List.range_succ,List.map_append]
  rfl
 ·have e:i=n:=by omega
  subst e
  exact .inl ⟨Nat.le_refl _,hQ acc H2 hs ha hacc⟩
end
instance (l w:List Nat) (i:Nat):Decidable (AtW l w i):=by unfold AtW;infer_instance
def Zav (l S:List Nat)(c:Nat):List Nat:=(S.filter fun s=>decide (l[s]?=some c)).map (· + 1)
def ZaC (l:List Nat):List Nat:=(List.range (l.length+1)).filter fun i=>decide (∀j,j<i→¬AtW l (l.drop i) j)
def Zad (l w:List Nat):List Nat:=((ZaC l).filter fun i=>decide (AtW l w i)).map (· + w.length)
theorem Zic {l:List Nat}{i:Nat}(h:i∈ZaC l):i≤l.length:=by
 have:=List.mem_range.mp (List.mem_filter.mp h).1
 omega
theorem ZdL (l:List Nat):Zad l []=ZaC l:=by
 unfold Zad
 have e:(ZaC l).filter (fun i=>decide (AtW l [] i))=ZaC l:=List.filter_eq_self.mpr fun i hi=>by
  have:=Zic hi
  exact decide_eq_true ⟨by simpa using this,by simp⟩
 rw[e]
 simp
theorem ZdE {l w:List Nat}{c i:Nat}:AtW l (w++[c]) i↔AtW l w i∧l[i+w.length]?=some c:=by
 unfold AtW
 rw[List.length_append,List.length_singleton]
 constructor
 ·rintro⟨h1,h2⟩
  have hlt:i+w.length<l.length:=by omega
  have e:(l.drop i).take (w.length+1)=(l.drop i).take w.length++[l[i+w.length]]:=by
   rw[List.take_succ,List.getElem?_drop,List.getElem?_eq_getElem hlt];rfl
  rw[e]at h2
  have h3:=List.append_inj' h2 rfl
  refine⟨⟨by omega,h3.1⟩,?_⟩
  rw[List.getElem?_eq_getElem hlt]
  have:=h3.2
  injection this with a b
  rw[a]
 ·rintro⟨⟨h1,h2⟩,h3⟩
  have hlt:i+w.length<l.length:=(List.getElem?_eq_some_iff.mp h3).1
  refine⟨by omega,?_⟩
  rw[List.take_succ,List.getElem?_drop,h3,h2]
  rfl
theorem ZaL (l w:List Nat)(c:Nat):Zad l (w++[c])=Zav l (Zad l w) c:=by
 unfold Zav Zad
 rw[List.filter_map,List.map_map,List.filter_filter]
 have e:((ZaC l).filter fun i=>decide (AtW l (w++[c]) i))=(ZaC l).filter fun a=>((fun s=>decide (l[s]?=some c)) ∘ fun x=>x+w.length) a&&decide (AtW l w a):=by
  apply List.filter_congr
  intro i _
  rw[Bool.eq_iff_iff,Bool.and_eq_true,decide_eq_true_iff,decide_eq_true_iff,ZdE]
  show _↔decide (l[i+w.length]?=some c)=true∧_
  rw[decide_eq_true_iff]
  exact And.comm
 rw[e]
 apply List.map_congr_left
 intro i _
 show i+(w++[c]).length=i+w.length+1
 rw[List.length_append,List.length_singleton]
 omega
theorem Zh3 {l w:List Nat}(h:Inf w l):∃i,AtW l w i∧∀j,j<i→¬AtW l w j:=by
 obtain⟨i,hi⟩:=h
 induction i using Nat.strongRecOn with
 | _ i ih=>
  by_cases c:∃j,j<i∧AtW l w j
  ·obtain⟨j,hj,hA⟩:=c
   exact ih j hj hA
  ·exact⟨i,hi,fun j hj hA=>c ⟨j,hj,hA⟩⟩
theorem ZcP {l w:List Nat}{i j:Nat}(h:AtW l w i)(hd:AtW l (l.drop i) j):AtW l w j:=by
 obtain⟨h1,h2⟩:=h
 obtain⟨d1,d2⟩:=hd
 rw[List.length_drop]at d1 d2
 refine⟨by omega,?_⟩
 have e:(l.drop j).take w.length=((l.drop j).take (l.length-i)).take w.length:=by rw[List.take_take,Nat.min_eq_left (by omega)]
 rw[e,d2]
 exact h2
theorem Za2 {l w:List Nat}:Zad l w≠[]↔Inf w l:=by
 constructor
 ·intro h
  unfold Zad at h
  have h':(ZaC l).filter (fun i=>decide (AtW l w i))≠[]:=fun e=>h (by rw[e];rfl)
  obtain⟨i,hi⟩:=List.exists_mem_of_ne_nil _ h'
  exact⟨i,of_decide_eq_true (List.mem_filter.mp hi).2⟩
 ·intro h
  obtain⟨i,hi,hmin⟩:=Zh3 h
  have hle:i≤l.length:=by have:=hi.1;omega
  have hf:i∈ZaC l:=List.mem_filter.mpr ⟨List.mem_range.mpr (by omega),decide_eq_true fun j hj hd=>hmin j hj (ZcP hi hd)⟩
  intro e
  unfold Zad at e
  have:=List.map_eq_nil_iff.mp e
  have hm:i∈(ZaC l).filter (fun i=>decide (AtW l w i)):=List.mem_filter.mpr ⟨hf,decide_eq_true hi⟩
  rw[this]at hm
  cases hm
theorem Zhv {l w:List Nat}{s:Nat}(h:s∈Zad l w):s≤l.length:=by
 unfold Zad at h
 obtain⟨i,hi,rfl⟩:=List.mem_map.mp h
 have:=(of_decide_eq_true (List.mem_filter.mp hi).2:AtW l w i).1
 exact this
theorem ZdN (l w:List Nat):(Zad l w).length≤l.length+1:=by
 unfold Zad ZaC
 rw[List.length_map]
 refine Nat.le_trans (List.length_filter_le _ _) (Nat.le_trans (List.length_filter_le _ _) ?_)
 rw[List.length_range]
 exact Nat.le_refl _
theorem Zfc {α:Type}[DecidableEq α]:∀(l m:List α),l.Nodup→(∀x∈l,x∈m)→l.length≤m.length
 | [],m,_,_=>Nat.zero_le _
 | x::l,m,nd,h=>by
  have hx:=h x List.mem_cons_self
  have nd':=List.nodup_cons.mp nd
  have:=Zfc l (m.erase x) nd'.2 fun y hy=>(List.mem_erase_of_ne (fun e=>by rw[e]at hy;exact nd'.1 hy)).mpr (h y (List.mem_cons_of_mem _ hy))
  rw[List.length_erase_of_mem hx]at this
  have pos:0<m.length:=List.length_pos_of_mem hx
  rw[List.length_cons]
  omega
def Zen (l:List Nat):List (List Nat):=(List.range (l.length+1)).flatMap fun i=>(List.range (l.length+1)).map fun k=>(l.drop i).take k
theorem Zf6 (l:List Nat):(Zen l).length=(l.length+1)*(l.length+1):=by
 unfold Zen
 rw[List.length_flatMap]
 have e:((List.range (l.length+1)).map fun i=>((List.range (l.length+1)).map fun k=>(l.drop i).take k).length)=List.replicate (l.length+1) (l.length+1):=by
  apply List.ext_getElem (by simp)
  intro i h1 h2
  simp
 rw[e,List.sum_replicate_nat]
theorem ZfS {l w:List Nat}(h:Inf w l):w∈Zen l:=by
 obtain⟨i,h1,h2⟩:=h
 unfold Zen
 rw[List.mem_flatMap]
 refine⟨i,List.mem_range.mpr (by omega),List.mem_map.mpr ⟨w.length,List.mem_range.mpr (by omega),h2⟩⟩
theorem ZhF {l:List Nat}{sp:List (List Nat)}(nd:sp.Nodup)(h:∀s∈sp,∃w,Inf w l∧s=Zad l w)(hl:l.length≤40):sp.length≤1681:=by
 have h1:=Zfc sp ((Zen l).map (Zad l)) nd fun s hs=>by
  obtain⟨w,hw,rfl⟩:=h s hs
  exact List.mem_map_of_mem (ZfS hw)
 rw[List.length_map,Zf6]at h1
 have:(l.length+1)*(l.length+1)≤41*41:=Nat.mul_le_mul (by omega) (by omega)
 omega
def Way (l:List Nat)(sp:List (List Nat))(s:List Nat)(c:Nat)(v:Option V):Prop:=(Zav l s c=[]∧v=none)∨(Zav l s c≠[]∧∃j:Nat,sp[j]?=some (Zav l s c)∧v=some (.int (j:Int)))
theorem Way.more {l s:List Nat}{sp more:List (List Nat)}{c:Nat}{v:Option V}(h:Way l sp s c v):Way l (sp++more) s c v:=by
 rcases h with h | ⟨h1,j,h2,h3⟩
 ·exact .inl h
 ·exact .inr ⟨h1,j,by rw[List.getElem?_append_left (List.getElem?_eq_some_iff.mp h2).1];exact h2,h3⟩
theorem Rd.same {H H':Hp}{a:Addr}{u:HO}(h:Rd H a u)(s:Same H H'):Rd H' a u:=h.elim (fun h=>.inl (s _ _ h)) fun ⟨o,h⟩=>.inr ⟨o,s _ _ h⟩
def Room1 (H:Hp)(l m:List Nat)(sp:List (List Nat))(i:Nat)(y:V):Prop:=∃(t d:Addr) (w:List Nat) (kvs:List (Key×V)),y=.ref t∧H t=some (.tup [tx w,.ref d])∧Rd H d (.dK kvs)∧Inf w l∧w.length≤l.length∧sp[i]?=some (Zad l w)∧∀c∈m,Way l sp (Zad l w) c (valV kvs (kTx [c]))
structure MachOk (H:Hp)(l m:List Nat)(sp:List (List Nat))(ys:List V):Prop where
 first:sp[0]?=some (ZaC l)
 len:ys.length=sp.length
 nd:sp.Nodup
 rooms:∀i y,ys[i]?=some y→Room1 H l m sp i y
theorem Room1.same {H H':Hp}{l m:List Nat}{sp:List (List Nat)}{i:Nat}{y:V}(h:Room1 H l m sp i y)(s:Same H H'):Room1 H' l m sp i y:=by
 obtain⟨t,d,w,kvs,e,h1,h2,r⟩:=h
 exact⟨t,d,w,kvs,e,s _ _ h1,Rd.same h2 s,r⟩
theorem MachOk.same {H H':Hp}{l m:List Nat}{sp:List (List Nat)}{ys:List V}(h:MachOk H l m sp ys)(s:Same H H'):MachOk H' l m sp ys:=⟨h.first,h.len,h.nd,fun i y e=>(h.rooms i y e).same s⟩
theorem Zcb {α:Type}{sp:List α}(nd:sp.Nodup){i j:Nat}{s:α}(h1:sp[i]?=some s)(h2:sp[j]?=some s):i=j:=by
 obtain⟨a1,e1⟩:=List.getElem?_eq_some_iff.mp h1
 obtain⟨a2,e2⟩:=List.getElem?_eq_some_iff.mp h2
 have z:=List.pairwise_iff_getElem.mp nd
 rcases Nat.lt_trichotomy i j with h | h | h
 ·exact absurd (e1.trans e2.symm) (z i j a1 a2 h)
 ·exact h
 ·exact absurd (e2.trans e1.symm) (z j i a2 a1 h)
structure Lin {α:Type}(lt:α→α→Bool):Prop where
 asym:∀a b,lt a b=true→lt b a=false
 trans:∀a b c,lt a b=true→lt b c=true→lt a c=true
 tri:∀a b,lt a b=false→lt b a=false→a=b
section
variable {prog:Program}{w:World}{A:Around}{E:Value→Shared→Prop}{s:Shared}
end
section
variable {prog:Program}{w:World}{A:Around}{E:Value→Shared→Prop}{s:Shared}
end
section
variable {X:Cx}
end
theorem Zhp {a b:List Nat}(h1:BefW a b)(h2:BefW b a):False:=by
 rcases h1 with h1 | ⟨h1,k1⟩<;>rcases h2 with h2 | ⟨h2,k2⟩
 ·omega
 ·omega
 ·omega
 ·exact List.lt_asymm k1 k2
theorem ZbV:∀ {a b:List (List Nat)},a.Pairwise BefW→b.Pairwise BefW→(∀x,x∈a↔x∈b)→a=b
 | [],[],_,_,_=>rfl
 | [],y::b,_,_,h=>by have:=(h y).mpr List.mem_cons_self;cases this
 | x::a,[],_,_,h=>by have:=(h x).mp List.mem_cons_self;cases this
 | x::a,y::b,ha,hb,h=>by
  have pa:=List.pairwise_cons.mp ha
  have pb:=List.pairwise_cons.mp hb
  have e:x=y:=by
   rcases List.mem_cons.mp ((h x).mp List.mem_cons_self) with z | z
   ·exact z
   ·rcases List.mem_cons.mp ((h y).mpr List.mem_cons_self) with z2 | z2
    ·exact z2.symm
    ·exact(Zhp (pb.1 x z) (pa.1 y z2)).elim
  subst e
  congr 1
  refine ZbV pa.2 pb.2 fun z=>?_
  constructor
  ·intro hz
   rcases List.mem_cons.mp ((h z).mp (List.mem_cons_of_mem _ hz)) with e | e
   ·rw[e]at hz;exact(ZbC (pa.1 x hz)).elim
   ·exact e
  ·intro hz
   rcases List.mem_cons.mp ((h z).mpr (List.mem_cons_of_mem _ hz)) with e | e
   ·rw[e]at hz;exact(ZbC (pb.1 x hz)).elim
   ·exact e
theorem ZgW {x y:List Nat}(e:kTx x=kTx y):x=y:=by unfold kTx at e;injection e with e;injection e with e;injection e
theorem Zfj (l:List Nat)(k:Nat):Inf (l.take k) l:=⟨0,by rw[List.length_take];omega,by rw[List.drop_zero,List.take_eq_take_iff,List.length_take];omega⟩
instance (w l:List Nat):Decidable (Inf w l):=decidable_of_iff (∃i,i<l.length+1∧i+w.length≤l.length∧(l.drop i).take w.length=w) ⟨fun ⟨i,_,h⟩=>⟨i,h⟩,fun ⟨i,h⟩=>⟨i,by have:=h.1;omega,h⟩⟩
theorem ZcO {a b:List Nat}(h:¬BefW a b)(ne:a≠b):BefW b a:=by
 unfold BefW at h ⊢
 rcases Nat.lt_trichotomy a.length b.length with z | z | z
 ·exact absurd (.inl z) h
 ·refine .inr ⟨z.symm,?_⟩
  have h':¬a<b:=fun y=>h (.inr ⟨z,y⟩)
  have y:=List.not_lt.mp h'
  exact Decidable.byContradiction fun z=>ne (List.le_antisymm (List.not_lt.mp z) y)
 ·exact .inl z
theorem Zem {a b c:List Nat}(h1:BefW a b)(h2:BefW b c):BefW a c:=by
 unfold BefW at *
 rcases h1 with h1 | ⟨e1,h1⟩<;>rcases h2 with h2 | ⟨e2,h2⟩
 ·exact .inl (by omega)
 ·exact .inl (by omega)
 ·exact .inl (by omega)
 ·exact .inr ⟨by omega,List.lt_trans h1 h2⟩
theorem Zil {a b:List Nat}{c:Nat}(h:BefW a b):BefW (a++[c]) (b++[c]):=by
 unfold BefW at *
 rw[List.length_append,List.length_append]
 rcases h with h | ⟨e,h⟩
 ·exact .inl (by simp;omega)
 ·exact .inr ⟨by rw[e],Zcu e h⟩
structure Numb (l m:List Nat)(ws:List (List Nat)):Prop where
 srt:ws.Pairwise BefW
 st:∀w∈ws,Inf w l
 nd:∀u∈ws,∀v∈ws,Zad l u=Zad l v→u=v
 nil:[]∈ws
 cl:∀w∈ws,∀c∈m,Inf (w++[c]) l→∃u∈ws,Zad l u=Zad l (w++[c])∧¬BefW (w++[c]) u
theorem Numb.all {l m:List Nat}{ws:List (List Nat)}(h:Numb l m ws)(hm:∀x∈l,x∈m):∀(n:Nat) (w:List Nat),w.length=n→Inf w l→∃u∈ws,Zad l u=Zad l w∧¬BefW w u:=by
 intro n
 induction n with
 | zero=>
  intro w hw _
  obtain rfl:w=[]:=List.eq_nil_of_length_eq_zero hw
  exact⟨[],h.nil,rfl,ZbC⟩
 | succ n ih=>
  intro w hw hi
  obtain⟨v,c,rfl⟩:∃v c,w=v++[c]:=by
   rcases List.eq_nil_or_concat w with z | ⟨v,c,z⟩
   ·rw[z]at hw;cases hw
   ·exact⟨v,c,by simpa using z⟩
  rw[List.length_append]at hw
  have hv:v.length=n:=by simpa using hw
  obtain⟨i,ai⟩:=id hi
  have av:=(ZdE.mp ai).1
  have cm:c∈m:=hm c (List.mem_of_getElem? (ZdE.mp ai).2)
  obtain⟨u,hu,eu,nu⟩:=ih v hv ⟨i,av⟩
  have e1:Zad l (u++[c])=Zad l (v++[c]):=by rw[ZaL,ZaL,eu]
  have hu':Inf (u++[c]) l:=Za2.mp (by rw[e1];exact Za2.mpr hi)
  obtain⟨x,hx,ex,nx⟩:=h.cl u hu c cm hu'
  refine⟨x,hx,ex.trans e1,fun z=>?_⟩
  by_cases e:u=v
  ·rw[e]at nx;exact nx z
  ·exact nx (Zem (Zil (ZcO nu (Ne.symm e))) z)
theorem Numb.min {l m:List Nat}{ws:List (List Nat)}(h:Numb l m ws)(hm:∀x∈l,x∈m){u w:List Nat}(hu:u∈ws)(hw:Inf w l)(e:Zad l w=Zad l u):¬BefW w u:=by
 obtain⟨x,hx,ex,nx⟩:=h.all hm _ w rfl hw
 have:=h.nd x hx u hu (ex.trans e)
 rw[this]at nx
 exact nx
theorem ZdM {l w:List Nat}{e:Nat}:e∈Zad l w↔∃i,i∈ZaC l∧AtW l w i∧e=i+w.length:=by
 unfold Zad
 rw[List.mem_map]
 constructor
 ·rintro⟨i,hi,rfl⟩
  rw[List.mem_filter,decide_eq_true_iff]at hi
  exact⟨i,hi.1,hi.2,rfl⟩
 ·rintro⟨i,h1,h2,rfl⟩
  exact⟨i,List.mem_filter.mpr ⟨h1,decide_eq_true h2⟩,rfl⟩
theorem Zc4 {l:List Nat}{i:Nat}:i∈ZaC l↔i≤l.length∧∀j,j<i→¬AtW l (l.drop i) j:=by
 unfold ZaC
 rw[List.mem_filter,List.mem_range,decide_eq_true_iff,Nat.lt_succ_iff]
theorem ZcF {l w:List Nat}{i:Nat}(h:AtW l w i):i∈ZaC l↔∀j,AtW l w j→l.drop (j+w.length)≠l.drop (i+w.length)→¬l.drop (i+w.length) <+: l.drop (j+w.length):=by
 rw[Zc4]
 have hl:=h.1
 have cutw:∀k,AtW l w k→l.drop k=w++l.drop (k+w.length):=fun k hk=>by
  have:=List.take_append_drop w.length (l.drop k)
  rw[hk.2,List.drop_drop]at this
  exact this.symm
 constructor
 ·rintro⟨_,hf⟩ j hj ne pre
  have hjl:=hj.1
  have el:=pre.length_le
  rw[List.length_drop,List.length_drop]at el
  have ji:j<i:=by
   rcases Nat.lt_or_ge j i with z | z
   ·exact z
   ·have:j=i:=by omega
    rw[this]at ne
    exact absurd rfl ne
  refine hf j ji ⟨by rw[List.length_drop];omega,?_⟩
  have p2:l.drop i <+: l.drop j:=by
   rw[cutw i h,cutw j hj]
   exact(List.prefix_append_right_inj w).mpr pre
  exact(List.prefix_iff_eq_take.mp p2).symm
 ·intro hr
  refine⟨by omega,fun j ji hj=>?_⟩
  have hjw:AtW l w j:=ZcP h hj
  have p2:l.drop i <+: l.drop j:=by rw[←hj.2];exact List.take_prefix _ _
  rw[cutw i h,cutw j hjw]at p2
  have p3:=(List.prefix_append_right_inj w).mp p2
  refine hr j hjw (fun z=>?_) p3
  have:=congrArg List.length z
  rw[List.length_drop,List.length_drop]at this
  have:=hjw.1
  omega
theorem Zla {l w:List Nat}{k:Nat}(hk:AtW l w k):l.drop k=w++l.drop (k+w.length):=by
 have:=List.take_append_drop w.length (l.drop k)
 rw[hk.2,List.drop_drop]at this
 exact this.symm
theorem ZdF {l w x:List Nat}{k:Nat}:AtW l (w++x) k↔AtW l w k∧x <+: l.drop (k+w.length):=by
 constructor
 ·rintro⟨h1,h2⟩
  rw[List.length_append]at h1 h2
  have hw:AtW l w k:=⟨by omega,by
   have:=congrArg (List.take w.length) h2
   rw[List.take_take,Nat.min_eq_left (by omega),List.take_left]at this
   exact this⟩
  refine⟨hw,?_⟩
  have p:w++x <+: l.drop k:=by rw[←h2];exact List.take_prefix _ _
  rw[Zla hw]at p
  exact(List.prefix_append_right_inj w).mp p
 ·rintro⟨hw,p⟩
  have p2:w++x <+: l.drop k:=by rw[Zla hw];exact(List.prefix_append_right_inj w).mpr p
  have:=p2.length_le
  rw[List.length_drop]at this
  have hl:=hw.1
  refine⟨?_,(List.prefix_iff_eq_take.mp p2).symm⟩
  by_cases z:(w++x).length=0
  ·rw[z];rw[List.length_append]at z;omega
  ·omega
theorem Zbr (l w:List Nat):(Zad l w).Pairwise (· < ·):=by
 unfold Zad ZaC
 exact List.Pairwise.map _ (fun a b h=>Nat.add_lt_add_right h _) ((List.pairwise_lt_range.filter _).filter _)
theorem ZdO {l w v:List Nat}(h:∀e,e∈Zad l w↔e∈Zad l v):Zad l w=Zad l v:=by
 have nd:∀u,(Zad l u).Nodup:=fun u=>(Zbr l u).imp fun h=>Nat.ne_of_lt h
 have pm:(Zad l w).Perm (Zad l v):=(List.perm_ext_iff_of_nodup (nd w) (nd v)).mpr h
 exact List.Perm.eq_of_pairwise (le:=(· < ·)) (fun a b _ _ h1 h2=>absurd h1 (Nat.lt_asymm h2)) (Zbr l w) (Zbr l v) pm
theorem ZfE {l w v:List Nat}(h:∀x,Inf (w++x) l↔Inf (v++x) l):Zad l w=Zad l v:=by
 have half:∀ {w v:List Nat},(∀x,Inf (w++x) l↔Inf (v++x) l)→∀e,e∈Zad l w→e∈Zad l v:=by
  intro w v h e he
  obtain⟨i,fi,ai,rfl⟩:=ZdM.mp he
  have far:=(ZcF ai).mp fi
  have il:=ai.1
  have noext:∀j,AtW l v j→l.drop (j+v.length)≠l.drop (i+w.length)→¬l.drop (i+w.length) <+: l.drop (j+v.length):=by
   intro j aj ne pre
   obtain⟨k,ak⟩:=(h (l.drop (j+v.length))).mpr ⟨j,ZdF.mpr ⟨aj,List.prefix_refl _⟩⟩
   obtain⟨ak,pk⟩:=ZdF.mp ak
   refine far k ak (fun z=>?_) (pre.trans pk)
   rw[z]at pk
   exact ne (pk.eq_of_length (Nat.le_antisymm pk.length_le pre.length_le))
  obtain⟨j,aj⟩:=(h (l.drop (i+w.length))).mp ⟨i,ZdF.mpr ⟨ai,List.prefix_refl _⟩⟩
  obtain⟨aj,pj⟩:=ZdF.mp aj
  have ed:l.drop (j+v.length)=l.drop (i+w.length):=Decidable.byContradiction fun z=>noext j aj z pj
  have el:=congrArg List.length ed
  rw[List.length_drop,List.length_drop]at el
  have jl:=aj.1
  refine ZdM.mpr ⟨j,(ZcF aj).mpr fun j' aj' ne pre=>?_,aj,by omega⟩
  rw[ed]at ne pre
  exact noext j' aj' ne pre
 exact ZdO fun e=>⟨half h e,half (fun x=>(h x).symm) e⟩
theorem ZcZ {l:List Nat}:∀(x:List Nat) {w v:List Nat},Zad l w=Zad l v→Zad l (w++x)=Zad l (v++x)
 | [],w,v,h=>by rw[List.append_nil,List.append_nil];exact h
 | c::x,w,v,h=>by
  rw[List.append_cons w c x,List.append_cons v c x]
  exact ZcZ x (by rw[ZaL,ZaL,h])
theorem Zf3 {l w v:List Nat}(h:Zad l w=Zad l v):∀x,Inf (w++x) l↔Inf (v++x) l:=fun x=>by rw[←Za2,←Za2,ZcZ x h]
theorem ZhG {l w:List Nat}(P:List Nat→Bool)(hP:∀i,AtW l w i→(P (l.drop (i+w.length))=true↔∀j,AtW l w j→l.drop (j+w.length)≠l.drop (i+w.length)→¬l.drop (i+w.length) <+: l.drop (j+w.length))):
  (((List.range (l.length+1)).filter fun i=>decide (AtW l w i)).map fun i=>l.drop (i+w.length)).filter P=(Zad l w).map fun e=>l.drop e:=by
 unfold Zad ZaC
 rw[List.filter_map,List.map_map,List.filter_filter,List.filter_filter]
 have e:((List.range (l.length+1)).filter fun a=>(P ∘ fun i=>l.drop (i+w.length)) a&&decide (AtW l w a))=(List.range (l.length+1)).filter fun a=>decide (AtW l w a)&&decide (∀j,j<a→¬AtW l (l.drop a) j):=by
  refine List.filter_congr fun i hi=>?_
  by_cases z:AtW l w i
  ·rw[decide_eq_true z,Bool.and_true,Bool.true_and]
   rw[Bool.eq_iff_iff,decide_eq_true_iff]
   show P (l.drop (i+w.length))=true↔_
   rw[hP i z,←ZcF z,Zc4]
   exact⟨fun h=>h.2,fun h=>⟨by have:=z.1;omega,h⟩⟩
  ·rw[decide_eq_false z,Bool.and_false,Bool.false_and]
 rw[e]
 rfl
theorem Zgr {l w v:List Nat}(h:((Zad l w).map fun e=>l.drop e).Perm ((Zad l v).map fun e=>l.drop e)):Zad l w=Zad l v:=by
 have back:∀u,((Zad l u).map fun e=>l.drop e).map (fun r=>l.length-r.length)=Zad l u:=fun u=>by
  rw[List.map_map]
  conv=>rhs;rw[←List.map_id (Zad l u)]
  refine List.map_congr_left fun e he=>?_
  have:=Zhv he
  show l.length-(l.drop e).length=e
  rw[List.length_drop]
  omega
 have p:=h.map (fun r=>l.length-r.length)
 rw[back,back]at p
 exact ZdO fun e=>p.mem_iff
theorem ZjG {a b:List Nat}{c d:Nat}(h:BefW a b):BefW (a++[c]) (b++[d]):=by
 unfold BefW at *
 rw[List.length_append,List.length_append]
 rcases h with h | ⟨e,h⟩
 ·exact .inl (by simp;omega)
 ·exact .inr ⟨by simp[e],Zcu e h⟩
theorem Zim {a:List Nat}{c d:Nat}(h:c<d):BefW (a++[c]) (a++[d]):=by
 unfold BefW
 refine .inr ⟨by simp,?_⟩
 induction a with
 | nil=>exact List.Lex.rel h
 | cons x a ih=>exact List.Lex.cons ih
structure Grow (l m:List Nat)(ws:List (List Nat))(n k:Nat):Prop where
 srt:ws.Pairwise BefW
 nil:[]∈ws
 frm:∀w∈ws,w=[]∨∃(i:Nat) (v:List Nat) (c:Nat),ws[i]?=some v∧w=v++[c]∧(i<n∨(i=n∧c∈m.take k))
 dn:∀(i:Nat) (v:List Nat),ws[i]?=some v→∀c∈m,(i<n∨(i=n∧c∈m.take k))→Inf (v++[c]) l→∃u∈ws,Zad l u=Zad l (v++[c])∧¬BefW (v++[c]) u
theorem Grow.start (l m:List Nat):Grow l m [[]] 0 0:=by
 refine⟨by simp,by simp,fun w hw=>.inl (by simpa using hw),fun i v hv c _ h=>?_⟩
 rcases h with h | ⟨_,h⟩
 ·omega
 ·simp at h
theorem Grow.next {l m:List Nat}{ws:List (List Nat)}{n:Nat}(h:Grow l m ws n m.length):Grow l m ws (n+1) 0:=by
 refine⟨h.srt,h.nil,fun w hw=>?_,fun i v hv c hc hi=>h.dn i v hv c hc ?_⟩
 ·rcases h.frm w hw with z | ⟨i,v,c,a,b,d⟩
  ·exact .inl z
  ·exact .inr ⟨i,v,c,a,b,.inl (by rcases d with d | d<;>omega)⟩
 ·rcases hi with hi | ⟨_,hi⟩
  ·rcases Nat.lt_or_ge i n with z | z
   ·exact .inl z
   ·exact .inr ⟨by omega,by rw[List.take_length];exact hc⟩
  ·simp at hi
theorem Grow.ahead {l m:List Nat}{ws:List (List Nat)}{n k:Nat}{v:List Nat}{c:Nat}(h:Grow l m ws n k)(hm:m.Pairwise (· < ·))(hc:m[k]?=some c)(hv:ws[n]?=some v):∀w∈ws,BefW w (v++[c]):=by
 intro w hw
 rcases h.frm w hw with z | ⟨i,u,d,a,b,e⟩
 ·rw[z];exact .inl (by simp)
 ·rw[b]
  rcases e with e | ⟨e,f⟩
  ·have hi:=(List.getElem?_eq_some_iff.mp a).1
   have hn:=(List.getElem?_eq_some_iff.mp hv).1
   have:=List.pairwise_iff_getElem.mp h.srt i n hi hn e
   rw[(List.getElem?_eq_some_iff.mp a).2,(List.getElem?_eq_some_iff.mp hv).2]at this
   exact ZjG this
  ·subst e
   rw[a]at hv
   cases hv
   obtain⟨j,hj,ej⟩:=List.mem_iff_getElem.mp f
   rw[List.length_take]at hj
   rw[List.getElem_take]at ej
   have hk:=(List.getElem?_eq_some_iff.mp hc).1
   have:=List.pairwise_iff_getElem.mp hm j k (by omega) hk (by omega)
   rw[ej,(List.getElem?_eq_some_iff.mp hc).2]at this
   exact Zim this
theorem Zin {a b:List Nat}(h:BefW a b):¬BefW b a:=fun z=>ZbC (Zem h z)
theorem ZaK {α:Type}{m:List α}{k:Nat}{c:α}(h:m[k]?=some c):m.take (k+1)=m.take k++[c]:=by
 rw[List.take_add_one,h];rfl
theorem Grow.old {l m:List Nat}{ws:List (List Nat)}{n k:Nat}{v:List Nat}{c:Nat}(h:Grow l m ws n k)(hm:m.Pairwise (· < ·))(hc:m[k]?=some c)(hv:ws[n]?=some v)(hs:Inf (v++[c]) l→∃u∈ws,Zad l u=Zad l (v++[c])):Grow l m ws n (k+1):=by
 refine⟨h.srt,h.nil,fun w hw=>?_,fun i u hu d hd hi hI=>?_⟩
 ·rcases h.frm w hw with z | ⟨i,v,c,a,b,e⟩
  ·exact .inl z
  ·refine .inr ⟨i,v,c,a,b,?_⟩
   rcases e with e | ⟨e,f⟩
   ·exact .inl e
   ·exact .inr ⟨e,by rw[ZaK hc];exact List.mem_append_left _ f⟩
 ·have old:(i<n∨(i=n∧d∈m.take k))∨(i=n∧d=c):=by
   rcases hi with hi | ⟨hi,hd⟩
   ·exact .inl (.inl hi)
   ·rw[ZaK hc]at hd
    rcases List.mem_append.mp hd with z | z
    ·exact .inl (.inr ⟨hi,z⟩)
    ·exact .inr ⟨hi,List.mem_singleton.mp z⟩
  rcases old with old | ⟨e1,e2⟩
  ·exact h.dn i u hu d hd old hI
  ·subst e1 e2
   rw[hv]at hu
   cases hu
   obtain⟨x,hx,ex⟩:=hs hI
   exact⟨x,hx,ex,Zin (h.ahead hm hc hv x hx)⟩
theorem Grow.new {l m:List Nat}{ws:List (List Nat)}{n k:Nat}{v:List Nat}{c:Nat}(h:Grow l m ws n k)(hm:m.Pairwise (· < ·))(hc:m[k]?=some c)(hv:ws[n]?=some v):Grow l m (ws++[v++[c]]) n (k+1):=by
 have ah:=h.ahead hm hc hv
 have hn:=(List.getElem?_eq_some_iff.mp hv).1
 have up:∀ {i:Nat} {u:List Nat},ws[i]?=some u→(ws++[v++[c]])[i]?=some u:=fun {i u} e=>by rw[List.getElem?_append_left (List.getElem?_eq_some_iff.mp e).1];exact e
 refine⟨List.pairwise_append.mpr ⟨h.srt,by simp,fun a ha b hb=>by rw[List.mem_singleton.mp hb];exact ah a ha⟩,List.mem_append_left _ h.nil,fun w hw=>?_,fun i u hu d hd hi hI=>?_⟩
 ·rcases List.mem_append.mp hw with z | z
  ·rcases h.frm w z with z | ⟨i,v,d,a,b,e⟩
   ·exact .inl z
   ·refine .inr ⟨i,v,d,up a,b,?_⟩
    rcases e with e | ⟨e,f⟩
    ·exact .inl e
    ·exact .inr ⟨e,by rw[ZaK hc];exact List.mem_append_left _ f⟩
  ·exact .inr ⟨n,v,c,up hv,List.mem_singleton.mp z,.inr ⟨rfl,by rw[ZaK hc];simp⟩⟩
 ·have hin:i<ws.length:=by rcases hi with hi | hi<;>omega
  rw[List.getElem?_append_left hin]at hu
  have old:(i<n∨(i=n∧d∈m.take k))∨(i=n∧d=c):=by
   rcases hi with hi | ⟨hi,hd⟩
   ·exact .inl (.inl hi)
   ·rw[ZaK hc]at hd
    rcases List.mem_append.mp hd with z | z
    ·exact .inl (.inr ⟨hi,z⟩)
    ·exact .inr ⟨hi,List.mem_singleton.mp z⟩
  rcases old with old | ⟨e1,e2⟩
  ·obtain⟨x,hx,r⟩:=h.dn i u hu d hd old hI
   exact⟨x,List.mem_append_left _ hx,r⟩
  ·subst e1 e2
   rw[hv]at hu
   cases hu
   exact⟨_,by simp,rfl,ZbC⟩
theorem Grow.numb {l m:List Nat}{ws:List (List Nat)}(h:Grow l m ws ws.length 0)(st:∀w∈ws,Inf w l)(nd:∀u∈ws,∀v∈ws,Zad l u=Zad l v→u=v):Numb l m ws:=by
 refine⟨h.srt,st,nd,h.nil,fun w hw c hc hI=>?_⟩
 obtain⟨i,hi,e⟩:=List.mem_iff_getElem.mp hw
 exact h.dn i w (by rw[List.getElem?_eq_getElem hi,e]) c hc (.inl hi) hI
structure Firs {κ:Type}(f:List Nat→κ)(ks ds:List (List Nat)):Prop where
 srt:ds.Pairwise BefW
 sub:∀d∈ds,d∈ks
 all:∀w∈ks,∃u∈ds,f u=f w∧¬BefW w u
 one:∀u∈ds,∀v∈ds,f u=f v→u=v
theorem Firs.nil {κ:Type}(f:List Nat→κ):Firs f [] []:=⟨.nil,(fun _ h=>by cases h),(fun _ h=>by cases h),(fun _ h=>by cases h)⟩
theorem Firs.old {κ:Type}{f:List Nat→κ}{ks ds:List (List Nat)}{w:List Nat}(h:Firs f ks ds)(hw:∀x∈ks,¬BefW w x)(hf:f w∈ds.map f):Firs f (ks++[w]) ds:=by
 refine⟨h.srt,fun d hd=>List.mem_append_left _ (h.sub d hd),fun x hx=>?_,h.one⟩
 rcases List.mem_append.mp hx with z | z
 ·exact h.all x z
 ·rw[List.mem_singleton.mp z]
  obtain⟨u,hu,e⟩:=List.mem_map.mp hf
  exact⟨u,hu,e,hw u (h.sub u hu)⟩
theorem Firs.new {κ:Type}{f:List Nat→κ}{ks ds:List (List Nat)}{w:List Nat}(h:Firs f ks ds)(hw:∀x∈ks,¬BefW w x)(hf:f w∉ds.map f):Firs f (ks++[w]) (ds++[w]):=by
 have ne:∀u∈ds,f u≠f w:=fun u hu e=>hf (List.mem_map.mpr ⟨u,hu,e⟩)
 refine⟨List.pairwise_append.mpr ⟨h.srt,by simp,fun a ha b hb=>?_⟩,fun d hd=>?_,fun x hx=>?_,fun u hu v hv e=>?_⟩
 ·rw[List.mem_singleton.mp hb]
  exact ZcO (hw a (h.sub a ha)) fun z=>ne a ha (by rw[←z])
 ·rcases List.mem_append.mp hd with z | z
  ·exact List.mem_append_left _ (h.sub d z)
  ·exact List.mem_append_right _ z
 ·rcases List.mem_append.mp hx with z | z
  ·obtain⟨u,hu,r⟩:=h.all x z
   exact⟨u,List.mem_append_left _ hu,r⟩
  ·rw[List.mem_singleton.mp z]
   exact⟨w,by simp,rfl,ZbC⟩
 ·rcases List.mem_append.mp hu with a | a<;>rcases List.mem_append.mp hv with b | b
  ·exact h.one u a v b e
  ·rw[List.mem_singleton.mp b]at e;exact absurd e (ne u a)
  ·rw[List.mem_singleton.mp a]at e;exact absurd e.symm (ne v b)
  ·rw[List.mem_singleton.mp a,List.mem_singleton.mp b]
theorem Numb.one {κ:Type}{f:List Nat→κ}{l m:List Nat}{ws ks ds:List (List Nat)}(h:Numb l m ws)(hm:∀x∈l,x∈m)(hk:∀w,w∈ks↔Inf w l)(hf:∀u v,Inf u l→Inf v l→(f u=f v↔Zad l u=Zad l v))(hd:Firs f ks ds):ds=ws:=by
 have di:∀d∈ds,Inf d l:=fun d z=>(hk d).mp (hd.sub d z)
 refine ZbV hd.srt h.srt fun w=>⟨fun hw=>?_,fun hw=>?_⟩
 ·have hi:=di w hw
  obtain⟨u,hu,eu,nu⟩:=h.all hm _ w rfl hi
  obtain⟨x,hx,ex,nx⟩:=hd.all u ((hk u).mpr (h.st u hu))
  have e:x=w:=hd.one x hx w hw ((hf x w (di x hx) hi).mpr (((hf x u (di x hx) (h.st u hu)).mp ex).trans eu))
  rw[e]at nx
  by_cases z:w=u
  ·rw[z];exact hu
  ·exact absurd (ZcO nu z) nx
 ·have hi:=h.st w hw
  obtain⟨u,hu,eu,nu⟩:=hd.all w ((hk w).mpr hi)
  have eu':=(hf u w (di u hu) hi).mp eu
  have:=h.min hm hw (di u hu) eu'
  by_cases z:w=u
  ·rw[z];exact hu
  ·exact absurd (ZcO nu z) this
end L2
namespace L2
open PySem PySem.W
def DG (K:Frag)(x:Str)(s:Stmt)(f:Addr)(e:FuncData):Prop:=nsIn K mainGlobals x=some (some (.ref f))∧Fun K x x s f e
def MG (K:Frag)(x q:Str)(s:Stmt)(f:Addr)(e:FuncData):Prop:=Fun K x q s f e∧PySem.W.isFn K (.ref f)=true
structure XG (K:Frag)(x:Str)(C:Addr)(L:List Value):Prop where
 a:nsIn K mainGlobals x=some (some (.ref C))
 m:Xm K C
 i:Xi K C
 k:ClsOk K C L
theorem dg_mk {K:Frag}{x:Str}{st:Stmt}{f:Addr}{oc:Value}{od an:Option Addr}{osl:Array (Option Value)}{kV doc pm cdv ct:Value}(a:nsIn K mainGlobals x=some (some (.ref f)))(l:K.lookup f=some ⟨oc,od,.func (PySem.W.fnOf x x (Zby st) (Za9 st) (Zai st) .none kV doc pm an cdv ct),osl⟩)
  (c:PySem.W.codeIn K cdv x=true) (k:PySem.W.keepIn K (.ref f)=true):DG K x st f (PySem.W.fnOf x x (Zby st) (Za9 st) (Zai st) .none kV doc pm an cdv ct):=⟨a,ZiD l c k⟩
theorem mg_mk {K:Frag}{x q:Str}{st:Stmt}{f:Addr}{oc:Value}{od an:Option Addr}{osl:Array (Option Value)}{kV doc pm cdv ct:Value}(l:K.lookup f=some ⟨oc,od,.func (PySem.W.fnOf x q (Zby st) (Za9 st) (Zai st) .none kV doc pm an cdv ct),osl⟩)
  (c:PySem.W.codeIn K cdv q=true) (k:PySem.W.keepIn K (.ref f)=true) (n:PySem.W.isFn K (.ref f)=true):MG K x q st f (PySem.W.fnOf x q (Zby st) (Za9 st) (Zai st) .none kV doc pm an cdv ct):=⟨ZiD l c k,n⟩
end L2
namespace L2
open PySem PySem.Spec PyProof.Rows
structure PAz (X:Cx)(es:List Expr)(t:TA):Prop where
 h:PA X es t
section
variable {prog:Program}{w:World}{A:Around}{E:Value→Shared→Prop}{s:Shared}
end
section
variable {prog:Program}{w:World}{A:Around}{E:Value→Shared→Prop}{s:Shared}
end
section
variable {X:Cx}
end
end L2
namespace L2
open PySem PySem.Spec PyProof.Rows PySem.W
section
variable {te:TE}{Q:VK}{τ0:St}{H:Hp}{K:Frag}{a:Addr}{xs:List V}
end
end L2
namespace L2
open PySem PySem.Spec PyProof.Rows
def ZjZ (t:TS):TS:=t
theorem Zak {X:Cx}{st:List Stmt}{t:TS}(h:PSs X st t):PSs X st (ZjZ t):=h
theorem Zao {t:TS}{D:Ends}{σ:St}{H:Hp}(h:t D σ H):ZjZ t D σ H:=h
section
variable {X:Cx}
end
section
variable {X:Cx}
end
end L2
set_option maxHeartbeats 400000000
namespace Pk12
open PySem L2
def top (i:Nat):Stmt:=PySem.Challenge.pw_lackword_k12_rooms_numbered.main.body.getD i (.Pass ⟨0,0,0,0⟩)
abbrev s_KT:Stmt:=top 11
abbrev s_KU:Stmt:=top 12
abbrev s_KX:Stmt:=top 13
abbrev s_KP:Stmt:=top 14
abbrev s_KO:Stmt:=top 15
abbrev s_KR:Stmt:=top 16
abbrev s_KL:Stmt:=top 17
abbrev s_KQ:Stmt:=top 19
abbrev s_KK:Stmt:=top 21
abbrev s_KH:Stmt:=top 22
abbrev s_KV:Stmt:=top 23
abbrev s_K2:Stmt:=top 26
abbrev s_K4:Stmt:=top 27
abbrev s_KZ:Stmt:=top 28
abbrev s_K1:Stmt:=top 29
abbrev s_K3:Stmt:=top 30
abbrev s_KS:Stmt:=top 31
abbrev s_K0:Stmt:=top 32
abbrev s_K6:Stmt:=top 33
abbrev s_K7:Stmt:=top 34
abbrev s_K5:Stmt:=top 35
abbrev s_KY:Stmt:=top 36
abbrev Zi3:Stmt:=top 37
abbrev s_KG:Stmt:=inClass (top 24) 0
abbrev s_KE:Stmt:=inClass (top 24) 1
abbrev s_KA:Stmt:=inClass (top 24) 2
abbrev s_KI:Stmt:=inClass (top 24) 3
abbrev s_KJ:Stmt:=inClass (top 24) 4
abbrev s_KB:Stmt:=inClass (top 24) 5
abbrev s_KC:Stmt:=inClass (top 24) 6
set_option genInjectivity false
set_option genSizeOf false
structure Ad where
 c_KW:Addr
 g_KG:Addr
 e_KG:FuncData
 g_KE:Addr
 e_KE:FuncData
 g_KA:Addr
 e_KA:FuncData
 g_KI:Addr
 e_KI:FuncData
 g_KJ:Addr
 e_KJ:FuncData
 g_KB:Addr
 e_KB:FuncData
 g_KC:Addr
 e_KC:FuncData
 f_KT:Addr
 d_KT:FuncData
 f_KU:Addr
 d_KU:FuncData
 f_KX:Addr
 d_KX:FuncData
 f_KP:Addr
 d_KP:FuncData
 f_KO:Addr
 d_KO:FuncData
 f_KR:Addr
 d_KR:FuncData
 f_KL:Addr
 d_KL:FuncData
 f_KQ:Addr
 d_KQ:FuncData
 f_KK:Addr
 d_KK:FuncData
 f_KH:Addr
 d_KH:FuncData
 f_KV:Addr
 d_KV:FuncData
 f_K2:Addr
 d_K2:FuncData
 f_K4:Addr
 d_K4:FuncData
 f_KZ:Addr
 d_KZ:FuncData
 f_K1:Addr
 d_K1:FuncData
 f_K3:Addr
 d_K3:FuncData
 f_KS:Addr
 d_KS:FuncData
 f_K0:Addr
 d_K0:FuncData
 f_K6:Addr
 d_K6:FuncData
 f_K7:Addr
 d_K7:FuncData
 f_K5:Addr
 d_K5:FuncData
 f_KY:Addr
 d_KY:FuncData
 f_law:Addr
 d_law:FuncData
 t_K6:Addr
 k_K6:Addr
 t_KY:Addr
 k_KY:Addr
structure Txt (K:PySem.W.Frag)(mg:Str→Option Value)(a:Ad):Prop where
 m_KT:mg "has_only"=some (.ref a.f_KT)
 f_KT:Fun K "has_only" "has_only" s_KT a.f_KT a.d_KT
 b_KT:Binds K a.d_KT ["text","letters"] []
 m_KU:mg "is_kinds"=some (.ref a.f_KU)
 f_KU:Fun K "is_kinds" "is_kinds" s_KU a.f_KU a.d_KU
 b_KU:Binds K a.d_KU ["thing"] []
 m_KX:mg "is_word"=some (.ref a.f_KX)
 f_KX:Fun K "is_word" "is_word" s_KX a.f_KX a.d_KX
 b_KX:Binds K a.d_KX ["thing","kinds","most"] []
 m_KP:mg "is_letter"=some (.ref a.f_KP)
 f_KP:Fun K "is_letter" "is_letter" s_KP a.f_KP a.d_KP
 b_KP:Binds K a.d_KP ["thing","kinds"] []
 m_KO:mg "need_kinds"=some (.ref a.f_KO)
 f_KO:Fun K "need_kinds" "need_kinds" s_KO a.f_KO a.d_KO
 b_KO:Binds K a.d_KO ["thing"] []
 m_KR:mg "need_word"=some (.ref a.f_KR)
 f_KR:Fun K "need_word" "need_word" s_KR a.f_KR a.d_KR
 b_KR:Binds K a.d_KR ["thing","kinds","most"] []
 m_KL:mg "need_letter"=some (.ref a.f_KL)
 f_KL:Fun K "need_letter" "need_letter" s_KL a.f_KL a.d_KL
 b_KL:Binds K a.d_KL ["thing","kinds"] []
 m_KQ:mg "is_within"=some (.ref a.f_KQ)
 f_KQ:Fun K "is_within" "is_within" s_KQ a.f_KQ a.d_KQ
 b_KQ:Binds K a.d_KQ ["thing","least","most"] []
 m_KK:mg "first_spots"=some (.ref a.f_KK)
 f_KK:Fun K "first_spots" "first_spots" s_KK a.f_KK a.d_KK
 b_KK:Binds K a.d_KK ["text"] []
 m_KH:mg "spots_behind"=some (.ref a.f_KH)
 f_KH:Fun K "spots_behind" "spots_behind" s_KH a.f_KH a.d_KH
 b_KH:Binds K a.d_KH ["text","spots","letter"] []
 m_KV:mg "rooms_of"=some (.ref a.f_KV)
 f_KV:Fun K "rooms_of" "rooms_of" s_KV a.f_KV a.d_KV
 b_KV:Binds K a.d_KV ["text","kinds"] []
 m_K2:mg "_law_cell_at"=some (.ref a.f_K2)
 f_K2:Fun K "_law_cell_at" "_law_cell_at" s_K2 a.f_K2 a.d_K2
 b_K2:Binds K a.d_K2 ["_law_script","_law_k"] []
 m_K4:mg "_law_mixed"=some (.ref a.f_K4)
 f_K4:Fun K "_law_mixed" "_law_mixed" s_K4 a.f_K4 a.d_K4
 b_K4:Binds K a.d_K4 ["_law_cell","_law_k"] []
 m_KZ:mg "_law_kinds"=some (.ref a.f_KZ)
 f_KZ:Fun K "_law_kinds" "_law_kinds" s_KZ a.f_KZ a.d_KZ
 b_KZ:Binds K a.d_KZ ["_law_cell"] []
 m_K1:mg "_law_drawn"=some (.ref a.f_K1)
 f_K1:Fun K "_law_drawn" "_law_drawn" s_K1 a.f_K1 a.d_K1
 b_K1:Binds K a.d_K1 ["_law_cell","_law_by_digits","_law_kinds_here","_law_many"] []
 m_K3:mg "_law_text"=some (.ref a.f_K3)
 f_K3:Fun K "_law_text" "_law_text" s_K3 a.f_K3 a.d_K3
 b_K3:Binds K a.d_K3 ["_law_cell","_law_way","_law_kinds_here","_law_most"] []
 m_KS:mg "_law_stretches"=some (.ref a.f_KS)
 f_KS:Fun K "_law_stretches" "_law_stretches" s_KS a.f_KS a.d_KS
 b_KS:Binds K a.d_KS ["_law_text_here"] []
 m_K0:mg "_law_onward"=some (.ref a.f_K0)
 f_K0:Fun K "_law_onward" "_law_onward" s_K0 a.f_K0 a.d_K0
 b_K0:Binds K a.d_K0 ["_law_text_here","_law_word","_law_known"] []
 m_K6:mg "_law_sorts"=some (.ref a.f_K6)
 f_K6:Fun K "_law_sorts" "_law_sorts" s_K6 a.f_K6 a.d_K6
 b_K6:Binds K a.d_K6 ["_law_text_here","_law_known"] []
 m_K7:mg "_law_ends"=some (.ref a.f_K7)
 f_K7:Fun K "_law_ends" "_law_ends" s_K7 a.f_K7 a.d_K7
 b_K7:Binds K a.d_K7 ["_law_text_here","_law_word"] []
 m_K5:mg "_law_rests"=some (.ref a.f_K5)
 f_K5:Fun K "_law_rests" "_law_rests" s_K5 a.f_K5 a.d_K5
 b_K5:Binds K a.d_K5 ["_law_text_here","_law_word"] []
 m_KY:mg "_law_firsts"=some (.ref a.f_KY)
 f_KY:Fun K "_law_firsts" "_law_firsts" s_KY a.f_KY a.d_KY
 b_KY:Binds K a.d_KY ["_law_text_here","_law_known"] []
 m_law:mg "law"=some (.ref a.f_law)
 f_law:Fun K "law" "law" Zi3 a.f_law a.d_law
 b_law:Binds K a.d_law ["_law_script"] []
 m_KW:mg "Machine"=some (.ref a.c_KW)
 cr_KW:ClsRead K a.c_KW "__init__" (.ref a.g_KG)
 cl_KW:Cls K a.c_KW
 mk_KW:Mk K a.c_KW a.g_KG
 me_KE:Meth K a.c_KW "rooms" a.g_KE
 me_KA:Meth K a.c_KW "need_room" a.g_KA
 me_KI:Meth K a.c_KW "led" a.g_KI
 me_KJ:Meth K a.c_KW "way" a.g_KJ
 me_KB:Meth K a.c_KW "room_of" a.g_KB
 me_KC:Meth K a.c_KW "word_to" a.g_KC
 n_Machine_own_kinds:NoAttr K a.c_KW "own_kinds"
 n_Machine_own_rooms:NoAttr K a.c_KW "own_rooms"
 ty_KW:∀ {H:Hp} {x dx:Addr} {fs:List (Str×V)},H x=some (.ins a.c_KW dx fs)→TyOf K H (.ref x) (.ref a.c_KW)
 fm_KG:Fun K "__init__" "Machine.__init__" s_KG a.g_KG a.e_KG
 kp_KG:PySem.W.keepIn K (.ref a.g_KG)=true
 b_KG:Binds K a.e_KG ["self","text","kinds"] []
 fm_KE:Fun K "rooms" "Machine.rooms" s_KE a.g_KE a.e_KE
 kp_KE:PySem.W.keepIn K (.ref a.g_KE)=true
 b_KE:Binds K a.e_KE ["self"] []
 fm_KA:Fun K "need_room" "Machine.need_room" s_KA a.g_KA a.e_KA
 kp_KA:PySem.W.keepIn K (.ref a.g_KA)=true
 b_KA:Binds K a.e_KA ["self","room"] []
 fm_KI:Fun K "led" "Machine.led" s_KI a.g_KI a.e_KI
 kp_KI:PySem.W.keepIn K (.ref a.g_KI)=true
 b_KI:Binds K a.e_KI ["self","room","letter"] []
 fm_KJ:Fun K "way" "Machine.way" s_KJ a.g_KJ a.e_KJ
 kp_KJ:PySem.W.keepIn K (.ref a.g_KJ)=true
 b_KJ:Binds K a.e_KJ ["self","room","letter"] []
 fm_KB:Fun K "room_of" "Machine.room_of" s_KB a.g_KB a.e_KB
 kp_KB:PySem.W.keepIn K (.ref a.g_KB)=true
 b_KB:Binds K a.e_KB ["self","word"] []
 fm_KC:Fun K "word_to" "Machine.word_to" s_KC a.g_KC a.e_KC
 kp_KC:PySem.W.keepIn K (.ref a.g_KC)=true
 b_KC:Binds K a.e_KC ["self","room"] []
 z_len:mg "len"=none
 z_range:mg "range"=none
 z_isinstance:mg "isinstance"=none
 z_all:mg "all"=none
 z_list:mg "list"=none
 z_tuple:mg "tuple"=none
 z_set:mg "set"=none
 z_sorted:mg "sorted"=none
 z_str:mg "str"=none
 z_int:mg "int"=none
 z_bool:mg "bool"=none
 z_sum:mg "sum"=none
 z_ValueError:mg "ValueError"=none
 c_KF:∃t,mg "SMALL_LETTERS"=some (.str (Str.ofString "abcdefghijklmnopqrstuvwxyz") t)
 c_KN:∃t,mg "MOST_KINDS"=some (.int 4 t)
 c_KD:∃t,mg "MOST_IN_STRIP"=some (.int 40 t)
 c_KM:∃t,mg "MOST_ASKED"=some (.int 60 t)
 bl:∀(s:Shared) (u:Value),BindsTo s a.d_law ⟨[u],[]⟩ [("_law_script",u)]
structure TL (K:PySem.W.Frag)(mg:Str→Option Value)(base:Heap)(a:Ad)(tb:Str→Addr×Addr):Prop extends Txt K mg a where
 L_sorts:LamEnv base mg a.k_K6 a.t_K6
 cd_K6:a.d_K6.code=.ref a.k_K6
 e_K6:a.t_K6=(tb "_law_sorts").2
 L_firsts:LamEnv base mg a.k_KY a.t_KY
 cd_KY:a.d_KY.code=.ref a.k_KY
 e_KY:a.t_KY=(tb "_law_firsts").2
theorem lenA {P:List Value→Prop}(h:∀a,P [a]):∀us:List Value,us.length=1→P us
 | [a],_=>h a
local macro_rules | `(tactic| walk_at "b1") => `(tactic| (intro _ _ _ _ _ _; refine lenA ?_; intros; rfl))
theorem lenB {P:List Value→Prop}(h:∀a b,P [a,b]):∀us:List Value,us.length=2→P us
 | [a,b],_=>h a b
local macro_rules | `(tactic| walk_at "b2") => `(tactic| (intro _ _ _ _ _ _; refine lenB ?_; intros; rfl))
theorem lenC {P:List Value→Prop}(h:∀a b c,P [a,b,c]):∀us:List Value,us.length=3→P us
 | [a,b,c],_=>h a b c
local macro_rules | `(tactic| walk_at "b3") => `(tactic| (intro _ _ _ _ _ _; refine lenC ?_; intros; rfl))
theorem lenD {P:List Value→Prop}(h:∀a b c d,P [a,b,c,d]):∀us:List Value,us.length=4→P us
 | [a,b,c,d],_=>h a b c d
local macro_rules | `(tactic| walk_at "b4") => `(tactic| (intro _ _ _ _ _ _; refine lenD ?_; intros; rfl))
theorem txt_mk {K:PySem.W.Frag}{h:Heap}{mg:Str→Option Value}(X:K.In h)(G:h.Ns mainGlobals mg){g_KG:Addr}{e_KG:FuncData}{g_KE:Addr}{e_KE:FuncData}{g_KA:Addr}{e_KA:FuncData}{g_KI:Addr}{e_KI:FuncData}{g_KJ:Addr}{e_KJ:FuncData}{g_KB:Addr}{e_KB:FuncData}{g_KC:Addr}{e_KC:FuncData}{c_KW:Addr}{f_KT:Addr}{d_KT:FuncData}{f_KU:Addr}{d_KU:FuncData}{f_KX:Addr}{d_KX:FuncData}{f_KP:Addr}{d_KP:FuncData}{f_KO:Addr}{d_KO:FuncData}{f_KR:Addr}{d_KR:FuncData}{f_KL:Addr}{d_KL:FuncData}{f_KQ:Addr}{d_KQ:FuncData}{f_KK:Addr}{d_KK:FuncData}{f_KH:Addr}{d_KH:FuncData}{f_KV:Addr}{d_KV:FuncData}{f_K2:Addr}{d_K2:FuncData}{f_K4:Addr}{d_K4:FuncData}{f_KZ:Addr}{d_KZ:FuncData}{f_K1:Addr}{d_K1:FuncData}{f_K3:Addr}{d_K3:FuncData}{f_KS:Addr}{d_KS:FuncData}{f_K0:Addr}{d_K0:FuncData}{f_K6:Addr}{d_K6:FuncData}{f_K7:Addr}{d_K7:FuncData}{f_K5:Addr}{d_K5:FuncData}{f_KY:Addr}{d_KY:FuncData}{f_law:Addr}{d_law:FuncData}{tk_KF:Tok}{tk_KN:Tok}{tk_KD:Tok}{tk_KM:Tok}{t_K6 k_K6:Addr}{t_KY k_KY:Addr}
  (ow_hn:PySem.W.specialIn K (.builtin "object.__class__") "__get__"=some (some (.builtin "getset_descriptor.__get__")))
  (ow_tk:PySem.W.takesIn K (.builtin "object.__class__")=some true)
  (a_KW:PySem.W.nsIn K mainGlobals "Machine"=some (some (.ref c_KW)))
  (pg_KW:PySem.W.plainGet K c_KW Str.empty=true)
  (hd_KW:PySem.W.hasDictIn K c_KW=true)
  (po_KW:PySem.W.plainOver K c_KW=true)
  (sa_KW:PySem.W.findIn K (.ref c_KW) "__setattr__"=some (some (.builtin "object.__setattr__")))
  (rs_KW:PySem.W.specialIn K (.ref c_KW) "__getattribute__"=some (some (.builtin "type.__getattribute__")))
  (rr_KW:PySem.W.readsIn K c_KW (.type "type")=true)
  (rf_KW:PySem.W.findCls K (.ref c_KW) (.type "type") "__init__"=some (.val (.ref g_KG)))
  (mk_KW:PySem.W.makesIn K c_KW=true)
  (in_KW:PySem.W.findIn K (.ref c_KW) "__init__"=some (some (.ref g_KG)))
  (kc_KW:PySem.W.keepIn K (.ref c_KW)=true)
  (ha_KW:PySem.W.findIn K (.ref c_KW) "__class__"=some (some (.builtin "object.__class__")))
  (mo_KW:PySem.W.mroIn K c_KW (.type "object")=some true)
  (me_KE:PySem.W.findIn K (.ref c_KW) "rooms"=some (some (.ref g_KE)))
  (me_KA:PySem.W.findIn K (.ref c_KW) "need_room"=some (some (.ref g_KA)))
  (me_KI:PySem.W.findIn K (.ref c_KW) "led"=some (some (.ref g_KI)))
  (me_KJ:PySem.W.findIn K (.ref c_KW) "way"=some (some (.ref g_KJ)))
  (me_KB:PySem.W.findIn K (.ref c_KW) "room_of"=some (some (.ref g_KB)))
  (me_KC:PySem.W.findIn K (.ref c_KW) "word_to"=some (some (.ref g_KC)))
  (n_Machine_own_kinds:PySem.W.findIn K (.ref c_KW) "own_kinds"=some none)
  (n_Machine_own_rooms:PySem.W.findIn K (.ref c_KW) "own_rooms"=some none)
  (F_Machine_init:MG K "__init__" "Machine.__init__" s_KG g_KG e_KG)
  (F_Machine_rooms:MG K "rooms" "Machine.rooms" s_KE g_KE e_KE)
  (F_Machine_need_room:MG K "need_room" "Machine.need_room" s_KA g_KA e_KA)
  (F_Machine_led:MG K "led" "Machine.led" s_KI g_KI e_KI)
  (F_Machine_way:MG K "way" "Machine.way" s_KJ g_KJ e_KJ)
  (F_Machine_room_of:MG K "room_of" "Machine.room_of" s_KB g_KB e_KB)
  (F_Machine_word_to:MG K "word_to" "Machine.word_to" s_KC g_KC e_KC)
  (D_has_only:DG K "has_only" s_KT f_KT d_KT)
  (D_is_kinds:DG K "is_kinds" s_KU f_KU d_KU)
  (D_is_word:DG K "is_word" s_KX f_KX d_KX)
  (D_is_letter:DG K "is_letter" s_KP f_KP d_KP)
  (D_need_kinds:DG K "need_kinds" s_KO f_KO d_KO)
  (D_need_word:DG K "need_word" s_KR f_KR d_KR)
  (D_need_letter:DG K "need_letter" s_KL f_KL d_KL)
  (D_is_within:DG K "is_within" s_KQ f_KQ d_KQ)
  (D_first_spots:DG K "first_spots" s_KK f_KK d_KK)
  (D_spots_behind:DG K "spots_behind" s_KH f_KH d_KH)
  (D_rooms_of:DG K "rooms_of" s_KV f_KV d_KV)
  (D_lcell:DG K "_law_cell_at" s_K2 f_K2 d_K2)
  (D_mixed:DG K "_law_mixed" s_K4 f_K4 d_K4)
  (D_lkinds:DG K "_law_kinds" s_KZ f_KZ d_KZ)
  (D_drawn:DG K "_law_drawn" s_K1 f_K1 d_K1)
  (D_ltext:DG K "_law_text" s_K3 f_K3 d_K3)
  (D_stretches:DG K "_law_stretches" s_KS f_KS d_KS)
  (D_onward:DG K "_law_onward" s_K0 f_K0 d_K0)
  (D_sorts:DG K "_law_sorts" s_K6 f_K6 d_K6)
  (D_ends:DG K "_law_ends" s_K7 f_K7 d_K7)
  (D_rests:DG K "_law_rests" s_K5 f_K5 d_K5)
  (D_firsts:DG K "_law_firsts" s_KY f_KY d_KY)
  (D_law:DG K "law" Zi3 f_law d_law)
  (z_len:PySem.W.nsIn K mainGlobals "len"=some none)
  (z_range:PySem.W.nsIn K mainGlobals "range"=some none)
  (z_isinstance:PySem.W.nsIn K mainGlobals "isinstance"=some none)
  (z_all:PySem.W.nsIn K mainGlobals "all"=some none)
  (z_list:PySem.W.nsIn K mainGlobals "list"=some none)
  (z_tuple:PySem.W.nsIn K mainGlobals "tuple"=some none)
  (z_set:PySem.W.nsIn K mainGlobals "set"=some none)
  (z_sorted:PySem.W.nsIn K mainGlobals "sorted"=some none)
  (z_str:PySem.W.nsIn K mainGlobals "str"=some none)
  (z_int:PySem.W.nsIn K mainGlobals "int"=some none)
  (z_bool:PySem.W.nsIn K mainGlobals "bool"=some none)
  (z_sum:PySem.W.nsIn K mainGlobals "sum"=some none)
  (z_ValueError:PySem.W.nsIn K mainGlobals "ValueError"=some none)
  (c_KF:PySem.W.nsIn K mainGlobals "SMALL_LETTERS"=some (some (.str (Str.ofString "abcdefghijklmnopqrstuvwxyz") tk_KF)))
  (c_KN:PySem.W.nsIn K mainGlobals "MOST_KINDS"=some (some (.int 4 tk_KN)))
  (c_KD:PySem.W.nsIn K mainGlobals "MOST_IN_STRIP"=some (some (.int 40 tk_KD)))
  (c_KM:PySem.W.nsIn K mainGlobals "MOST_ASKED"=some (some (.int 60 tk_KM))):∃a,Txt K mg a∧a.t_K6=t_K6∧a.k_K6=k_K6∧a.t_KY=t_KY∧a.k_KY=k_KY:=by
 obtain⟨_,_,_,_,_,_,_,_,_,rfl,_⟩:=id D_law.2.ex
 refine⟨{ c_KW,g_KG,e_KG,g_KE,e_KE,g_KA,e_KA,g_KI,e_KI,g_KJ,e_KJ,g_KB,e_KB,g_KC,e_KC,f_KT,d_KT,f_KU,d_KU,f_KX,d_KX,f_KP,d_KP,f_KO,d_KO,f_KR,d_KR,f_KL,d_KL,f_KQ,d_KQ,f_KK,d_KK,f_KH,d_KH,f_KV,d_KV,f_K2,d_K2,f_K4,d_K4,f_KZ,d_KZ,f_K1,d_K1,f_K3,d_K3,f_KS,d_KS,f_K0,d_K0,f_K6,d_K6,f_K7,d_K7,f_K5,d_K5,f_KY,d_KY,f_law,t_K6,k_K6,t_KY,k_KY,d_law:=_ },{ m_KT:=PySem.W.mg_of X G D_has_only.1,f_KT:=D_has_only.2,b_KT:=D_has_only.2.binds (by walk_at "b2"),m_KU:=PySem.W.mg_of X G D_is_kinds.1,f_KU:=D_is_kinds.2,b_KU:=D_is_kinds.2.binds (by walk_at "b1"),m_KX:=PySem.W.mg_of X G D_is_word.1,f_KX:=D_is_word.2,b_KX:=D_is_word.2.binds (by walk_at "b3"),m_KP:=PySem.W.mg_of X G D_is_letter.1,f_KP:=D_is_letter.2,b_KP:=D_is_letter.2.binds (by walk_at "b2"),m_KO:=PySem.W.mg_of X G D_need_kinds.1,f_KO:=D_need_kinds.2,b_KO:=D_need_kinds.2.binds (by walk_at "b1"),m_KR:=PySem.W.mg_of X G D_need_word.1,f_KR:=D_need_word.2,b_KR:=D_need_word.2.binds (by walk_at "b3"),m_KL:=PySem.W.mg_of X G D_need_letter.1,f_KL:=D_need_letter.2,b_KL:=D_need_letter.2.binds (by walk_at "b2"),m_KQ:=PySem.W.mg_of X G D_is_within.1,f_KQ:=D_is_within.2,b_KQ:=D_is_within.2.binds (by walk_at "b3"),m_KK:=PySem.W.mg_of X G D_first_spots.1,f_KK:=D_first_spots.2,b_KK:=D_first_spots.2.binds (by walk_at "b1"),m_KH:=PySem.W.mg_of X G D_spots_behind.1,f_KH:=D_spots_behind.2,b_KH:=D_spots_behind.2.binds (by walk_at "b3"),m_KV:=PySem.W.mg_of X G D_rooms_of.1,f_KV:=D_rooms_of.2,b_KV:=D_rooms_of.2.binds (by walk_at "b2"),m_K2:=PySem.W.mg_of X G D_lcell.1,f_K2:=D_lcell.2,b_K2:=D_lcell.2.binds (by walk_at "b2"),m_K4:=PySem.W.mg_of X G D_mixed.1,f_K4:=D_mixed.2,b_K4:=D_mixed.2.binds (by walk_at "b2"),m_KZ:=PySem.W.mg_of X G D_lkinds.1,f_KZ:=D_lkinds.2,b_KZ:=D_lkinds.2.binds (by walk_at "b1"),m_K1:=PySem.W.mg_of X G D_drawn.1,f_K1:=D_drawn.2,b_K1:=D_drawn.2.binds (by walk_at "b4"),m_K3:=PySem.W.mg_of X G D_ltext.1,f_K3:=D_ltext.2,b_K3:=D_ltext.2.binds (by walk_at "b4"),m_KS:=PySem.W.mg_of X G D_stretches.1,f_KS:=D_stretches.2,b_KS:=D_stretches.2.binds (by walk_at "b1"),m_K0:=PySem.W.mg_of X G D_onward.1,f_K0:=D_onward.2,b_K0:=D_onward.2.binds (by walk_at "b3"),m_K6:=PySem.W.mg_of X G D_sorts.1,f_K6:=D_sorts.2,b_K6:=D_sorts.2.binds (by walk_at "b2"),m_K7:=PySem.W.mg_of X G D_ends.1,f_K7:=D_ends.2,b_K7:=D_ends.2.binds (by walk_at "b2"),m_K5:=PySem.W.mg_of X G D_rests.1,f_K5:=D_rests.2,b_K5:=D_rests.2.binds (by walk_at "b2"),m_KY:=PySem.W.mg_of X G D_firsts.1,f_KY:=D_firsts.2,b_KY:=D_firsts.2.binds (by walk_at "b2"),m_law:=PySem.W.mg_of X G D_law.1,f_law:=D_law.2,b_law:=D_law.2.binds (by walk_at "b1"),m_KW:=PySem.W.mg_of X G a_KW,cr_KW:=⟨rs_KW,rr_KW,rf_KW,rfl⟩,cl_KW:=⟨pg_KW,hd_KW,po_KW,sa_KW⟩,mk_KW:=⟨mk_KW,in_KW,F_Machine_init.2,kc_KW⟩,me_KE:=⟨me_KE,F_Machine_rooms.2,F_Machine_rooms.1.kp⟩,me_KA:=⟨me_KA,F_Machine_need_room.2,F_Machine_need_room.1.kp⟩,me_KI:=⟨me_KI,F_Machine_led.2,F_Machine_led.1.kp⟩,me_KJ:=⟨me_KJ,F_Machine_way.2,F_Machine_way.1.kp⟩,me_KB:=⟨me_KB,F_Machine_room_of.2,F_Machine_room_of.1.kp⟩,me_KC:=⟨me_KC,F_Machine_word_to.2,F_Machine_word_to.1.kp⟩,n_Machine_own_kinds,n_Machine_own_rooms,ty_KW:=fun e=>.ins e ⟨pg_KW,hd_KW,po_KW,sa_KW⟩ ha_KW ow_hn ow_tk mo_KW,fm_KG:=F_Machine_init.1,kp_KG:=F_Machine_init.1.kp,b_KG:=F_Machine_init.1.binds (by walk_at "b3"),fm_KE:=F_Machine_rooms.1,kp_KE:=F_Machine_rooms.1.kp,b_KE:=F_Machine_rooms.1.binds (by walk_at "b1"),fm_KA:=F_Machine_need_room.1,kp_KA:=F_Machine_need_room.1.kp,b_KA:=F_Machine_need_room.1.binds (by walk_at "b2"),fm_KI:=F_Machine_led.1,kp_KI:=F_Machine_led.1.kp,b_KI:=F_Machine_led.1.binds (by walk_at "b3"),fm_KJ:=F_Machine_way.1,kp_KJ:=F_Machine_way.1.kp,b_KJ:=F_Machine_way.1.binds (by walk_at "b3"),fm_KB:=F_Machine_room_of.1,kp_KB:=F_Machine_room_of.1.kp,b_KB:=F_Machine_room_of.1.binds (by walk_at "b2"),fm_KC:=F_Machine_word_to.1,kp_KC:=F_Machine_word_to.1.kp,b_KC:=F_Machine_word_to.1.binds (by walk_at "b2"),z_len:=PySem.W.mg_none_of X G z_len,z_range:=PySem.W.mg_none_of X G z_range,z_isinstance:=PySem.W.mg_none_of X G z_isinstance,z_all:=PySem.W.mg_none_of X G z_all,z_list:=PySem.W.mg_none_of X G z_list,z_tuple:=PySem.W.mg_none_of X G z_tuple,z_set:=PySem.W.mg_none_of X G z_set,z_sorted:=PySem.W.mg_none_of X G z_sorted,z_str:=PySem.W.mg_none_of X G z_str,z_int:=PySem.W.mg_none_of X G z_int,z_bool:=PySem.W.mg_none_of X G z_bool,z_sum:=PySem.W.mg_none_of X G z_sum,z_ValueError:=PySem.W.mg_none_of X G z_ValueError,c_KF:=⟨_,PySem.W.mg_of X G c_KF⟩,c_KN:=⟨_,PySem.W.mg_of X G c_KN⟩,c_KD:=⟨_,PySem.W.mg_of X G c_KD⟩,c_KM:=⟨_,PySem.W.mg_of X G c_KM⟩,bl:=fun s u=>.of_eq rfl },rfl,rfl,rfl,rfl⟩
end Pk12
namespace Pk12
open PySem L2
def Zh0:Pos:=⟨195,44,195,86⟩
def lqF:Str:="_law_firsts.<locals>.<lambda>"
def ZgO:Pos:=⟨176,44,176,86⟩
def lqS:Str:="_law_sorts.<locals>.<lambda>"
def LET:List Nat:=[97,98,99,100,101,102,103,104,105,106,107,108,109,110,111,112,113,114,115,116,117,118,119,120,121,122]
def isk (l:List Nat):Bool:=decide (1≤l.length)&&decide (l.length≤4)&&(l.all fun c=>LET.contains c)&&decide (signs l=Zbk (ddl (signs l)))
def isw (l m:List Nat)(most:Int):Bool:=decide ((l.length:Int)≤most)&&l.all fun c=>m.contains c
def Zdh:List Nat→List Nat→Bool
 | _,[]=>true
 | last,c::r=>decide (c∈LET)&&decide (last < [c])&&Zdh [c] r
def ZeZ (l:List Nat):Bool:=decide (1≤l.length)&&decide (l.length≤4)&&Zdh [] l
theorem ZgG {a b:Nat}:([a] < [b])↔a<b:=by
 constructor
 ·intro h;cases h with
  | rel h=>exact h
  | cons h=>cases h
 ·exact fun h=>List.Lex.rel h
theorem Ze0:∀(l:List Nat) (d:Nat),Zdh [d] l=true↔(∀c∈l,c∈LET)∧(d::l).Pairwise (· < ·)
 | [],d=>by simp[Zdh]
 | c::r,d=>by
  rw[Zdh,Bool.and_eq_true,Bool.and_eq_true,decide_eq_true_iff,decide_eq_true_iff,ZgG,Ze0 r c]
  simp only[List.pairwise_cons,List.mem_cons,forall_eq_or_imp]
  constructor
  ·rintro⟨⟨h1,h2⟩,h3,h4,h5⟩
   exact⟨⟨h1,h3⟩,⟨h2,fun x hx=>Nat.lt_trans h2 (h4 x hx)⟩,h4,h5⟩
  ·rintro⟨⟨h1,h3⟩,⟨h2,_⟩,h4,h5⟩
   exact⟨⟨h1,h2⟩,h3,h4,h5⟩
theorem Zch (l:List Nat):Zdh [] l=true↔(∀c∈l,c∈LET)∧l.Pairwise (· < ·):=by
 cases l with
 | nil=>simp[Zdh]
 | cons c r=>
  rw[Zdh,Bool.and_eq_true,Bool.and_eq_true,decide_eq_true_iff,decide_eq_true_iff,Ze0 r c]
  simp only[List.mem_cons,forall_eq_or_imp]
  constructor
  ·rintro⟨⟨h1,_⟩,h3,h4⟩;exact⟨⟨h1,h3⟩,h4⟩
  ·rintro⟨⟨h1,h3⟩,h4⟩;exact⟨⟨h1,by simp⟩,h3,h4⟩
theorem Zc8:∀(ls acc:List (List Nat)),(acc++ls).Nodup→ls.foldl addT acc=acc++ls
 | [],acc,_=>by simp
 | x::ls,acc,h=>by
  have hx:¬x∈acc:=by
   rw[List.nodup_append]at h
   exact fun hm=>h.2.2 x hm x List.mem_cons_self rfl
  rw[List.foldl_cons,addT,if_neg hx,Zc8 ls (acc++[x]) (by simpa using h)]
  simp
theorem Zex {l:List Nat}(h:l.Pairwise (· < ·)):(signs l).Nodup:=by
 unfold signs List.Nodup
 rw[List.pairwise_map]
 exact h.imp fun hab e=>by injection e with e;omega
theorem Zhh (ls:List (List Nat)):(ddl ls).Nodup:=by rw[←Zhi];exact Zdz _
theorem Zc0 (l:List Nat):signs l=Zbk (ddl (signs l))↔l.Pairwise (· < ·):=by
 constructor
 ·intro e
  have h1:(signs l).Pairwise (fun a b=>leT a b=true):=by rw[e];exact Zbs _
  have h2:(signs l).Nodup:=by rw[e];exact(ZaI _).nodup_iff.mpr (Zhh _)
  unfold signs at h1
  unfold signs List.Nodup at h2
  rw[List.pairwise_map]at h1 h2
  refine(h1.and h2).imp ?_
  rintro a b ⟨x,y⟩
  have y':a≠b:=fun e=>y (by rw[e])
  have x':¬([b] < [a]):=by simpa [leT] using x
  rw[ZgG]at x'
  omega
 ·intro h
  have e:ddl (signs l)=signs l:=by unfold ddl;rw[Zc8 _ _ (by simpa using Zex h)];simp
  rw[e]
  refine Zbz (List.Perm.refl _) ?_
  unfold signs
  rw[List.pairwise_map]
  refine h.imp fun {a b} hab=>?_
  have:¬([b] < [a]):=by rw[ZgG];omega
  simpa [leT] using this
theorem Zd6 (l:List Nat):isk l=ZeZ l:=by
 have h1:(l.all fun c=>LET.contains c)=decide (∀c∈l,c∈LET):=by
  rw[Bool.eq_iff_iff,List.all_eq_true,decide_eq_true_iff]
  simp
 have h2:decide (signs l=Zbk (ddl (signs l)))=decide (l.Pairwise (· < ·)):=by rw[Bool.eq_iff_iff,decide_eq_true_iff,decide_eq_true_iff,Zc0]
 have h3:Zdh [] l=(decide (∀c∈l,c∈LET)&&decide (l.Pairwise (· < ·))):=by rw[Bool.eq_iff_iff,Bool.and_eq_true,decide_eq_true_iff,decide_eq_true_iff,Zch]
 unfold isk ZeZ
 rw[h1,h2,h3,Bool.and_assoc]
theorem all_range (l m:List Nat):((List.range l.length).map (fun i=>decide (l.getD i 0∈m))).all id=l.all fun c=>m.contains c:=by
 rw[Bool.eq_iff_iff,List.all_eq_true,List.all_eq_true]
 constructor
 ·intro h c hc
  obtain⟨i,hi,rfl⟩:=List.mem_iff_getElem.mp hc
  have:=h _ (List.mem_map_of_mem (List.mem_range.mpr hi))
  simpa [List.getD_eq_getElem?_getD,List.getElem?_eq_getElem hi] using this
 ·intro h b hb
  obtain⟨i,hi,rfl⟩:=List.mem_map.mp hb
  have hi:=List.mem_range.mp hi
  have:=h _ (List.getElem_mem hi)
  simpa [List.getD_eq_getElem?_getD,List.getElem?_eq_getElem hi] using this
def cell (ns:List Int)(k:Int):Int:=ns.getD k.toNat 0
theorem ZjI {ns:List Int}{k:Int}(h0:0≤k)(h1:k<ns.length):atI (ns.map V.int) k=some (.int (cell ns k)):=by
 have hk:k.toNat<ns.length:=by omega
 unfold atI ixN cell
 rw[List.length_map,if_pos h0,if_pos h1,Option.bind_some,List.getElem?_map,List.getD_eq_getElem?_getD,List.getElem?_eq_getElem hk]
 rfl
theorem ZbZ {K:PySem.W.Frag}{H:Hp}{l:List Nat}(h:l.length≤1000):LenV K (tx l) H l.length:=by
 have e:(⟨l.toArray⟩:Str).length=l.length:=by simp[Str.length]
 have:l.length≤sizeLine:=Nat.le_trans h (by rw[sizeLine_eq];decide)
 exact⟨by rw[e];exact this,e.symm⟩
theorem cm {x y m:Int}(h:0<m)(h2:m≤2 ^ 64):CMul (x % m) y:=.inl ⟨by have:=Int.emod_nonneg x (show m≠0 by omega);omega,by have:=Int.emod_lt_of_pos x h;omega⟩
theorem Zfg {K:PySem.W.Frag}{t:Value}:PySem.W.kitOne K t t=some true:=by unfold PySem.W.kitOne;simp
theorem ZiO {α:Type}{xs:List α}{i:Int}(h0:0≤i)(h1:i<xs.length):∃v,atI xs i=some v∧v∈xs:=by
 have hi:i.toNat<xs.length:=by omega
 refine⟨xs[i.toNat],?_,List.getElem_mem hi⟩
 unfold atI ixN
 rw[if_pos h0,if_pos h1,Option.bind_some,List.getElem?_eq_getElem hi]
theorem ZcE (xs:List (List Nat)):(xs.map tx).all Zbp=true:=by
 rw[List.all_eq_true]
 intro v hv
 obtain⟨x,_,rfl⟩:=List.mem_map.mp hv
 rfl
theorem same_upd3 {H H2:Hp}{e:Addr}{o':HO}(s:Same H H2)(h:H e=none):Same H (upd H2 e o'):=fun b u hb=>by
 have:b≠e:=fun z=>by rw[z,h]at hb;cases hb
 rw[Zac this];exact s _ _ hb
theorem Zb2 {α:Type}(p:α→Bool)(d:α)(ls:List α):((List.range ls.length).filter fun i=>p (ls.getD i d)).map (fun i=>ls.getD i d)=ls.filter p:=by
 have e:(List.range ls.length).map (fun i=>ls.getD i d)=ls:=by
  apply List.ext_getElem
  ·simp
  ·intro i h1 h2
   simp[h2]
 have h:=List.filter_map (p:=p) (f:=fun i=>ls.getD i d) (l:=List.range ls.length)
 rw[e]at h
 rw[h]
 rfl
theorem Zg4 {ls:List (List Nat)}{k:Nat}(h:k<ls.length):(ls.map tx).getD k V.non=tx (ls.getD k []):=by
 rw[List.getD_eq_getElem?_getD,List.getElem?_map,List.getD_eq_getElem?_getD,List.getElem?_eq_getElem h]
 rfl
theorem Zhc:∀(xs ys:List (List Nat)),deqs ((xs.map tx).map DT.f) ((ys.map tx).map DT.f)=decide (xs=ys)
 | [],[]=>by unfold deqs;rfl
 | [],y::ys=>by simp only[List.map_cons,List.map_nil];unfold deqs;rfl
 | x::xs,[]=>by simp only[List.map_cons,List.map_nil];unfold deqs;rfl
 | x::xs,y::ys=>by
  simp only[List.map_cons]
  unfold deqs
  rw[Zhc xs ys]
  have e:deq (DT.f (tx x)) (DT.f (tx y))=decide (x=y):=by
   unfold deq
   rw[←Zft]
   show ((⟨x.toArray⟩:Str) == ⟨y.toArray⟩)=_
   rw[Bool.eq_iff_iff,beq_iff_eq,decide_eq_true_iff]
   exact⟨fun h=>by unfold tx;rw[h],fun h=>by unfold tx at h;injection h⟩
  rw[e,Bool.eq_iff_iff,Bool.and_eq_true,decide_eq_true_iff,decide_eq_true_iff,decide_eq_true_iff,List.cons.injEq]
theorem ZiF {K:PySem.W.Frag}{H:Hp}{Q:VK}{a b:Addr}{xs ys:List (List Nat)}(h1:SqL K H a (xs.map tx))(h2:SqL K H b (ys.map tx))(q:Q (.bl (decide (xs=ys))) H):rEqD K false (.ref a) (.ref b) H Q:=
 .inr ⟨_,_,datL h1 (ZcE _),datL h2 (ZcE _),fun z=>Bool.false_ne_true z.1,(ownL h1 (ZcE _)).2.2,by
  unfold deq
  rw[Zhc]
  exact q⟩
theorem Zjm:V.str (Str.ofString "abcdefghijklmnopqrstuvwxyz")=tx LET:=congrArg V.str (by decide +kernel)
theorem Zjz (l:List Nat):(ddl (signs l)).length≤l.length:=by
 have:∀(ls acc:List (List Nat)),(ls.foldl addT acc).length≤acc.length+ls.length:=by
  intro ls
  induction ls with
  | nil=>intro acc;simp
  | cons x ls ih=>
   intro acc
   rw[List.foldl_cons]
   refine Nat.le_trans (ih _) ?_
   unfold addT
   split<;>simp<;>omega
 have h:=this (signs l) []
 unfold ddl
 unfold signs at h ⊢
 simpa using h
theorem signs_length (l:List Nat):(signs l).length=l.length:=by unfold signs;rw[List.length_map]
theorem ZkL {K:PySem.W.Frag}:PySem.W.kitOne K (.type "int") (.type "bool")=some false:=by rfl
structure StripOk (l m:List Nat):Prop where
 k:isk m=true
 m1:1≤m.length
 m4:m.length≤4
 l40:l.length≤40
 mem:∀x∈l,x∈m
theorem ZkS {l m:List Nat}(h:StripOk l m):isw l m 40=true:=by
 have h2:=h.l40
 unfold isw
 rw[Bool.and_eq_true,decide_eq_true_iff,List.all_eq_true]
 exact⟨by omega,fun x hx=>by simpa using h.mem x hx⟩
theorem ZkT {m:List Nat}(h1:1≤m.length)(h4:m.length≤4)(hm:∀c∈m,c∈LET)(hp:m.Pairwise (· < ·)):isk m=true:=by
 rw[Zd6]
 unfold ZeZ
 rw[(Zch m).mpr ⟨hm,hp⟩]
 simp[h1,h4]
theorem Zlc (l:List Nat){i:Int}(h:0≤i):cut l none (some i)=l.take i.toNat:=by
 obtain⟨k,rfl⟩:∃k:Nat,i=(k:Int):=⟨i.toNat,by omega⟩
 rw[Zlb,Int.toNat_natCast]
theorem ZjB (l:List Nat){i:Int}(h:0≤i):cut l (some i) none=l.drop i.toNat:=by
 obtain⟨k,rfl⟩:∃k:Nat,i=(k:Int):=⟨i.toNat,by omega⟩
 rw[Zcc,Int.toNat_natCast]
theorem iteT' {p q:Prop}[Decidable True](h:p):if True then p else q:=by rw[if_pos True.intro];exact h
theorem ZhJ (l:List Nat)(n:Int):(repT l n).length=n.toNat*l.length:=by unfold repT;simp
theorem ZhI {l:List Nat}{n:Int}{x:Nat}(h:x∈repT l n):x∈l:=by
 unfold repT at h
 obtain⟨y,hy,hx⟩:=List.mem_flatten.mp h
 rw[(List.mem_replicate.mp hy).2]at hx
 exact hx
theorem eq_int {K:PySem.W.Frag}{H:Hp}{Q:VK}{x:Int}(h:Q (.bl true) H):rEqD K false (.int x) (.int x) H Q:=.inl ⟨rfl,by rw[if_neg Bool.false_ne_true,decide_eq_true rfl];exact h⟩
theorem ZdI {α:Type}{l:List α}{i:Nat}{x:α}(h:l[i]?=some x):l.take (i+1)=l.take i++[x]:=by rw[List.take_succ,h];rfl
theorem ZeD {x:Nat}{l:List Nat}{lo hi:Option Int}(h:x∈cut l lo hi):x∈l:=List.mem_of_mem_drop (List.mem_of_mem_take h)
structure KOk (m:List Nat):Prop where
 k:isk m=true
 m1:1≤m.length
 m4:m.length≤4
theorem KOk.lets {m:List Nat}(h:KOk m):∀c∈m,97≤c∧c≤122:=by
 have h1:=h.k
 rw[Zd6]at h1
 unfold ZeZ at h1
 rw[Bool.and_eq_true]at h1
 intro c hc
 have:=((Zch m).mp h1.2).1 c hc
 revert this
 unfold LET
 simp only[List.mem_cons,List.not_mem_nil,or_false]
 omega
theorem ZgY {l m:List Nat}{most:Int}(h:(l.length:Int)≤most)(hm:∀x∈l,x∈m):isw l m most=true:=by
 unfold isw
 rw[Bool.and_eq_true,decide_eq_true_iff,List.all_eq_true]
 exact⟨h,fun x hx=>by simpa using hm x hx⟩
theorem Zgo {H:Hp}{e:Addr}{o o':HO}(h:H e=none):Same H (upd (upd H e o) e o'):=fun b u hb=>by
 have:b≠e:=fun z=>by rw[z,h]at hb;cases hb
 rw[Zac this,Zac this];exact hb
theorem ZgP:∀k<26,LET.getD k 0=97+k:=by decide
theorem Zh2 {x:Nat}(h1:97≤x)(h2:x≤122):x∈LET:=by
 unfold LET
 simp only[List.mem_cons,List.not_mem_nil,or_false]
 omega
theorem Zfx {m:List Nat}{i:Int}(h0:0≤i)(h1:i<m.length):atI m i=some (m.getD i.toNat 0):=by
 have h:i.toNat<m.length:=by omega
 unfold atI ixN
 rw[if_pos h0,if_pos h1,Option.bind_some,List.getD_eq_getElem?_getD,List.getElem?_eq_getElem h]
 rfl
theorem Zfz {G:Prop}{T C:Hp→Prop}(h1:(∀H7,C H7→T H7)→G)(h2:∀H7,C H7→T H7):G:=h1 h2
theorem ZcV {G:Prop}{T C:Int→Prop}(h1:(∀n,C n→T n)→G)(h2:∀n,C n→T n):G:=h1 h2
def Zeb (m:List Nat)(q:Addr):List (Str×V):=putF "own_rooms" (.ref q) (putF "own_kinds" (tx m) [])
theorem krm:¬(("own_kinds":Str)="own_rooms"):=by decide +kernel
theorem ZcD {m:List Nat}{q:Addr}:(Zeb m q).lookup ("own_kinds":Str)=some (tx m):=by unfold Zeb;rw[ZaJ,if_neg krm,ZaJ,if_pos rfl]
theorem Zbo {m:List Nat}{q:Addr}:(Zeb m q).lookup ("own_rooms":Str)=some (.ref q):=by unfold Zeb;rw[ZaJ,if_pos rfl]
theorem ZaQ {m:List Nat} {q:Addr} {x:Str} (h1:¬x="own_rooms") (h2:¬x="own_kinds"):(Zeb m q).lookup x=none:=by
 unfold Zeb
 rw[ZaJ,if_neg h1,ZaJ,if_neg h2]
 rfl
def MachAt (C:Addr)(H:Hp)(p:Addr)(l m:List Nat)(sp:List (List Nat)):Prop:=∃(dx q:Addr) (ys:List V),H p=some (.ins C dx (Zeb m q))∧H q=some (.lst ys)∧MachOk H l m sp ys
theorem MachAt.same {C:Addr}{H H':Hp}{p:Addr}{l m:List Nat}{sp:List (List Nat)}(r:MachAt C H p l m sp)(s:Same H H'):MachAt C H' p l m sp:=by
 obtain⟨dx,q,ys,h1,h2,h3⟩:=r
 exact⟨dx,q,ys,s _ _ h1,s _ _ h2,h3.same s⟩
def Zlh (l:List Nat)(sp:List (List Nat))(w:List Nat)(v:V):Prop:=(¬Inf w l∧v=.non)∨(Inf w l∧∃j:Nat,sp[j]?=some (Zad l w)∧v=.int (j:Int))
def Zli (l:List Nat)(kvs:List (Key×V)):Prop:=(∀kv∈kvs,∃x:List Nat,kv.1=kTx x∧Inf x l)∧∀x:List Nat,(valV kvs (kTx x)).isSome=infB x l
theorem MachOk.upd {H:Hp}{p C dx:Addr}{fs:List (Str×V)}{o:HO}{l m:List Nat}{sp:List (List Nat)}{ys:List V}(h:MachOk H l m sp ys)(hp:H p=some (.ins C dx fs)):MachOk (upd H p o) l m sp ys:=by
 refine⟨h.first,h.len,h.nd,fun i y e=>?_⟩
 obtain⟨t,d,w,kvs,e1,h1,h2,r⟩:=h.rooms i y e
 refine⟨t,d,w,kvs,e1,?_,?_,r⟩
 ·rw[Zac (fun z=>by rw[z,hp]at h1;cases h1)];exact h1
 ·have nz:d≠p:=fun z=>by
   rcases h2 with h2 | ⟨o,h2⟩
   ·rw[z,hp]at h2;cases h2
   ·rw[z,hp]at h2;cases h2
  rcases h2 with h2 | ⟨o,h2⟩
  ·exact .inl (by rw[Zac nz];exact h2)
  ·exact .inr ⟨o,by rw[Zac nz];exact h2⟩
theorem ZfZ {l:List Nat}{i:Nat}{r:Int}(hi:i≤l.length)(h:(r=-1∧¬Inf (l.drop i) l)∨∃k:Nat,r=(k:Int)∧AtW l (l.drop i) k∧∀j,j<k→¬AtW l (l.drop i) j):decide (V.int r=V.int (i:Nat))=decide (∀j,j<i→¬AtW l (l.drop i) j):=by
 have hA:AtW l (l.drop i) i:=by
  refine⟨by rw[List.length_drop];omega,?_⟩
  rw[List.take_length]
 rw[Bool.eq_iff_iff,decide_eq_true_iff,decide_eq_true_iff]
 rcases h with⟨_,h⟩|⟨k,rfl,hk,hmin⟩
 ·exact absurd ⟨i,hA⟩ h
 ·constructor
  ·intro e
   injection e with e
   have:k=i:=by omega
   subst this
   exact hmin
  ·intro h2
   have h3:¬k<i:=fun z=>h2 k z hk
   have h4:¬i<k:=fun z=>hmin i z hA
   have:k=i:=by omega
   rw[this]
theorem cut1 {l:List Nat}{s c:Nat}:decide (tx (cut l (some (s:Int)) (some ((s:Int)+1)))=tx [c])=decide (l[s]?=some c):=by
 have e:((s:Int)+1)=((s+1:Nat):Int):=by omega
 rw[Zft,e,ZiJ]
 have e2:s+1-s=1:=by omega
 rw[e2,Bool.eq_iff_iff,decide_eq_true_iff,decide_eq_true_iff]
 by_cases h:s<l.length
 ·rw[List.getElem?_eq_getElem h]
  have e3:(l.drop s).take 1=[l[s]]:=by rw[List.take_one,List.head?_drop,List.getElem?_eq_getElem h];rfl
  rw[e3]
  constructor
  ·intro z;injection z with z _;rw[z]
  ·intro z;injection z with z;rw[z]
 ·rw[List.getElem?_eq_none (by omega),List.drop_eq_nil_of_le (by omega)]
  simp
theorem ZcT (S:List Nat)(p:Nat→Bool)(f:Nat→Nat):((List.range S.length).filter fun i=>p (S.getD i 0)).map (fun i=>V.int ((f (S.getD i 0):Nat):Int))=(((S.filter p).map f).map fun (i:Nat)=>V.int i):=by
 rw[←Zb2 p 0 S,List.map_map,List.map_map]
 rfl
theorem Zfj {w l:List Nat}(h:Inf w l)(k:Nat):Inf (w.take k) l:=by
 obtain⟨i,h1,h2⟩:=h
 have hl:(w.take k).length≤w.length:=by rw[List.length_take];omega
 refine⟨i,by omega,?_⟩
 have e:(l.drop i).take (w.take k).length=((l.drop i).take w.length).take (w.take k).length:=by rw[List.take_take,Nat.min_eq_left hl]
 rw[e,h2,List.length_take]
 by_cases c:k≤w.length
 ·rw[Nat.min_eq_left c]
 ·rw[Nat.min_eq_right (by omega),List.take_length,List.take_of_length_le (by omega)]
def keyT (s:List Nat):List Key:=s.map fun (i:Nat)=>(Sum.inl ((i:Nat):Int):Key)
theorem ZeG (s:List Nat):(keyT s).map kV=s.map fun (i:Nat)=>V.int i:=by unfold keyT;rw[List.map_map];rfl
theorem Zfh {s t:List Nat}(h:keyT s=keyT t):s=t:=by
 unfold keyT at h
 exact(List.map_inj_right (f:=fun (i:Nat)=>(Sum.inl ((i:Nat):Int):Key)) (fun x y e=>by injection e with e;exact Int.ofNat.inj e)).mp h
def numK (sp:List (List Nat)):List (List Key×V):=sp.zipIdx.map fun p=>(keyT p.1,V.int ((p.2:Nat):Int))
theorem Zfb (sp:List (List Nat)):(numK sp).length=sp.length:=by unfold numK;simp
theorem ZdZ {sp:List (List Nat)}{s:List Nat}(h:s∉sp):valV (numK sp) (keyT s)=none:=by
 unfold valV
 have:(numK sp).find? (fun kv=>decide (kv.1=keyT s))=none:=by
  rw[List.find?_eq_none]
  intro kv hkv
  unfold numK at hkv
  obtain⟨p,hp,rfl⟩:=List.mem_map.mp hkv
  have h1:=List.fst_mem_of_mem_zipIdx hp
  intro z
  have z:keyT p.1=keyT s:=of_decide_eq_true z
  exact h (by rw[←Zfh z];exact h1)
 first | (rw[this];rfl) | simp[this]
theorem ZgL {sp:List (List Nat)}{s:List Nat}{j:Nat}(nd:sp.Nodup)(h:sp[j]?=some s):valV (numK sp) (keyT s)=some (.int (j:Int)):=by
 have hj:=(List.getElem?_eq_some_iff.mp h).1
 have hs:(numK sp).find? (fun kv=>decide (kv.1=keyT s))=some (keyT s,.int (j:Int)):=by
  rw[List.find?_eq_some_iff_getElem]
  refine⟨by simp,j,by rw[Zfb];exact hj,?_,fun k hk=>?_⟩
  ·unfold numK
   rw[List.getElem_map,List.getElem_zipIdx]
   have:=(List.getElem?_eq_some_iff.mp h).2
   simp[this]
  ·unfold numK
   rw[List.getElem_map,List.getElem_zipIdx]
   have hk':k<sp.length:=by omega
   simp only[Bool.not_eq_true',decide_eq_false_iff_not]
   intro z
   have:=Zfh z
   exact absurd (Zcb nd (List.getElem?_eq_getElem hk') (by rw[this];exact h)) (by omega)
 unfold valV
 first | (rw[hs];rfl) | simp[hs]
theorem ZgK {sp:List (List Nat)}{s:List Nat}(h:s∉sp):putK (numK sp) (keyT s) (.int (sp.length:Int))=numK (sp++[s]):=by
 rw[Zdm _ (ZdZ h)]
 unfold numK
 rw[List.zipIdx_append,List.map_append]
 simp
structure RInv (H:Hp)(ps pw pn:Addr)(l:List Nat)(sp ws:List (List Nat))(ts:List Addr):Prop where
 hs:H ps=some (.lst (ts.map V.ref))
 hw:H pw=some (.lst (ws.map tx))
 hn:H pn=some (.dT (numK sp))
 tl:ts.length=sp.length
 tt:∀(i:Nat) (t:Addr) (s:List Nat),ts[i]?=some t→sp[i]?=some s→H t=some (.tup (s.map fun (i:Nat)=>V.int i))
 wl:ws.length=sp.length
 wt:∀(i:Nat) (w s:List Nat),ws[i]?=some w→sp[i]?=some s→s=Zad l w∧Inf w l
 nd:sp.Nodup
 f0:sp[0]?=some (ZaC l)
theorem RInv.same {H H':Hp}{ps pw pn:Addr}{l:List Nat}{sp ws:List (List Nat)}{ts:List Addr}(r:RInv H ps pw pn l sp ws ts)(s:Same H H'):RInv H' ps pw pn l sp ws ts:=
 ⟨s _ _ r.hs,s _ _ r.hw,s _ _ r.hn,r.tl,fun i t u a b=>s _ _ (r.tt i t u a b),r.wl,r.wt,r.nd,r.f0⟩
theorem RInv.other {H:Hp}{a ps pw pn:Addr}{o0 o:HO}{l:List Nat}{sp ws:List (List Nat)}{ts:List Addr}(r:RInv H ps pw pn l sp ws ts)(h:H a=some o0)(hne:∀xs,o0≠.tup xs)(n1:ps≠a)(n2:pw≠a)(n3:pn≠a):RInv (upd H a o) ps pw pn l sp ws ts:=by
 refine⟨by rw[Zac n1];exact r.hs,by rw[Zac n2];exact r.hw,by rw[Zac n3];exact r.hn,r.tl,fun i t u x y=>?_,r.wl,r.wt,r.nd,r.f0⟩
 have:=r.tt i t u x y
 rw[Zac (fun z=>by rw[z,h]at this;exact hne _ (Option.some.inj this))]
 exact this
theorem RInv.push {H:Hp}{ps pw pn tb:Addr}{l:List Nat}{sp ws:List (List Nat)}{ts:List Addr}{s w:List Nat}(r:RInv H ps pw pn l sp ws ts)(n1:ps≠pw)(n2:ps≠pn)(n3:pw≠pn)(hb:H tb=some (.tup (s.map fun (i:Nat)=>V.int i)))(hs:s∉sp)(e:s=Zad l w)(hI:Inf w l):
  RInv (upd (upd (upd H pn (.dT (putK (numK sp) (keyT s) (.int (sp.length:Int))))) ps (.lst (ts.map V.ref++[.ref tb]))) pw (.lst (ws.map tx++[tx w]))) ps pw pn l (sp++[s]) (ws++[w]) (ts++[tb]):=by
 have keep:∀t xs,H t=some (.tup xs)→upd (upd (upd H pn (.dT (putK (numK sp) (keyT s) (.int (sp.length:Int))))) ps (.lst (ts.map V.ref++[.ref tb]))) pw (.lst (ws.map tx++[tx w])) t=some (.tup xs):=fun t xs h=>by
  rw[Zac (fun z=>by rw[z,r.hw]at h;cases h),Zac (fun z=>by rw[z,r.hs]at h;cases h),Zac (fun z=>by rw[z,r.hn]at h;cases h)]
  exact h
 refine⟨?_,?_,?_,?_,?_,?_,?_,?_,?_⟩
 ·rw[Zac n1,Zaf];simp
 ·rw[Zaf];simp
 ·rw[Zac (Ne.symm n3),Zac (Ne.symm n2),Zaf,ZgK hs]
 ·rw[List.length_append,List.length_append,r.tl];rfl
 ·intro i t u h1 h2
  by_cases c:i<sp.length
  ·rw[List.getElem?_append_left (by rw[r.tl];exact c)]at h1
   rw[List.getElem?_append_left c]at h2
   exact keep _ _ (r.tt i t u h1 h2)
  ·have hi:i=sp.length:=by have:=(List.getElem?_eq_some_iff.mp h2).1;rw[List.length_append,List.length_singleton]at this;omega
   subst hi
   rw[List.getElem?_append_right (by omega)]at h2
   rw[List.getElem?_append_right (by rw[r.tl];omega),r.tl]at h1
   simp at h1 h2
   rw[←h1,←h2]
   exact keep _ _ hb
 ·rw[List.length_append,List.length_append,r.wl];rfl
 ·intro i v u h1 h2
  by_cases c:i<sp.length
  ·rw[List.getElem?_append_left (by rw[r.wl];exact c)]at h1
   rw[List.getElem?_append_left c]at h2
   exact r.wt i v u h1 h2
  ·have hi:i=sp.length:=by have:=(List.getElem?_eq_some_iff.mp h2).1;rw[List.length_append,List.length_singleton]at this;omega
   subst hi
   rw[List.getElem?_append_right (by omega)]at h2
   rw[List.getElem?_append_right (by rw[r.wl];omega),r.wl]at h1
   simp at h1 h2
   rw[←h1,←h2]
   exact⟨e,hI⟩
 ·rw[List.nodup_append]
  exact⟨r.nd,by simp,fun x hx y hy=>by rw[List.mem_singleton.mp hy];exact fun z=>hs (by rw[←z];exact hx)⟩
 ·rw[List.getElem?_append_left (List.getElem?_eq_some_iff.mp r.f0).1];exact r.f0
theorem RInv.le {H:Hp}{ps pw pn:Addr}{l:List Nat}{sp ws:List (List Nat)}{ts:List Addr}(r:RInv H ps pw pn l sp ws ts)(hl:l.length≤40):sp.length≤1681:=by
 refine ZhF r.nd (fun s hs=>?_) hl
 obtain⟨i,hi,rfl⟩:=List.mem_iff_getElem.mp hs
 have hw:ws[i]?=some (ws[i]'(by rw[r.wl];exact hi)):=List.getElem?_eq_getElem _
 obtain⟨a,b⟩:=r.wt i _ _ hw (List.getElem?_eq_getElem hi)
 exact⟨_,b,a⟩
def RoomP (H:Hp)(P:Addr→Prop)(l m:List Nat)(sp:List (List Nat))(i:Nat)(y:V):Prop:=∃(t d:Addr) (w:List Nat) (kvs:List (Key×V)),y=.ref t∧H t=some (.tup [tx w,.ref d])∧H d=some (.dK kvs)∧P d∧Inf w l∧w.length≤l.length∧sp[i]?=some (Zad l w)∧∀c∈m,Way l sp (Zad l w) c (valV kvs (kTx [c]))
theorem RoomP.same {H H':Hp}{P:Addr→Prop}{l m:List Nat}{sp:List (List Nat)}{i:Nat}{y:V}(h:RoomP H P l m sp i y)(s:Same H H'):RoomP H' P l m sp i y:=by
 obtain⟨t,d,w,kvs,e,h1,h2,r⟩:=h
 exact⟨t,d,w,kvs,e,s _ _ h1,s _ _ h2,r⟩
theorem RoomP.mono {H:Hp}{P P':Addr→Prop}{l m:List Nat}{sp:List (List Nat)}{i:Nat}{y:V}(h:RoomP H P l m sp i y)(f:∀d kvs,H d=some (.dK kvs)→P d→P' d):RoomP H P' l m sp i y:=by
 obtain⟨t,d,w,kvs,e,h1,h2,hp,r⟩:=h
 exact⟨t,d,w,kvs,e,h1,h2,f d kvs h2 hp,r⟩
theorem RoomP.other {H:Hp}{a:Addr}{o0 o:HO}{P:Addr→Prop}{l m:List Nat}{sp:List (List Nat)}{i:Nat}{y:V}(r:RoomP H P l m sp i y)(h:H a=some o0)(hne:∀xs,o0≠.tup xs)(hd:∀d,P d→d≠a∨∀kvs,o0≠.dK kvs):RoomP (upd H a o) P l m sp i y:=by
 obtain⟨t,d,w,kvs,e,h1,h2,hp,r⟩:=r
 refine⟨t,d,w,kvs,e,?_,?_,hp,r⟩
 ·rw[Zac (fun z=>by rw[z,h]at h1;exact hne _ (Option.some.inj h1))];exact h1
 ·rw[Zac (fun z=>?_)]
  ·exact h2
  ·rcases hd d hp with k | k
   ·exact k z
   ·rw[z,h]at h2;exact k _ (Option.some.inj h2)
theorem RoomP.more {H:Hp}{P:Addr→Prop}{l m:List Nat}{sp more:List (List Nat)}{i:Nat}{y:V}(r:RoomP H P l m sp i y):RoomP H P l m (sp++more) i y:=by
 obtain⟨t,d,w,kvs,e,h1,h2,hp,a,b,c,f⟩:=r
 exact⟨t,d,w,kvs,e,h1,h2,hp,a,b,by rw[List.getElem?_append_left (List.getElem?_eq_some_iff.mp c).1];exact c,fun x hx=>(f x hx).more⟩
theorem kTx1 {c d:Nat}:kTx [c]=kTx [d]↔c=d:=⟨fun e=>by unfold kTx at e;injection e with e;injection e with e;injection e with e;injection e,fun e=>by rw[e]⟩
theorem Zjn:∀k<8,([97,98,99,100,101,102,103,104]:List Nat).getD k 0=97+k:=by decide
theorem Zjr {l:List Nat}{s e:Nat}(h:s≤e)(he:e≤l.length):Inf ((l.drop s).take (e-s)) l:=by
 refine⟨s,?_,?_⟩
 ·rw[List.length_take,List.length_drop];omega
 ·rw[List.length_take,List.length_drop,Nat.min_eq_left (by omega)]
theorem ZkW {l x:List Nat}(h:Inf x l):∃s e,s≤e∧e≤l.length∧x=(l.drop s).take (e-s):=by
 obtain⟨i,h1,h2⟩:=h
 exact⟨i,i+x.length,by omega,h1,by rw[show i+x.length-i=x.length by omega];exact h2.symm⟩
theorem ZgW {x y:List Nat}(e:kTx x=kTx y):x=y:=by unfold kTx at e;injection e with e;injection e with e;injection e
def Sound (l:List Nat)(kvs:List (Key×V)):Prop:=∀kv∈kvs,∃x:List Nat,kv.1=kTx x∧Inf x l
theorem Sound.put {l x:List Nat}{kvs:List (Key×V)}{v:V}(h:Sound l kvs)(hx:Inf x l):Sound l (putK kvs (kTx x) v):=by
 intro kv hkv
 unfold putK at hkv
 split at hkv
 ·obtain⟨k0,h0,rfl⟩:=List.mem_map.mp hkv
  obtain⟨y,e,hy⟩:=h k0 h0
  refine⟨y,?_,hy⟩
  show (if k0.1=kTx x then (k0.1,v) else k0).1=kTx y
  split<;>exact e
 ·rcases List.mem_append.mp hkv with h1 | h1
  ·exact h kv h1
  ·rw[List.mem_singleton.mp h1];exact⟨x,rfl,hx⟩
theorem ZbL {kvs:List (Key×V)}{k k':Key}{v:V}(h:(valV kvs k').isSome=true∨k'=k):(valV (putK kvs k v) k').isSome=true:=by
 rw[Zdf]
 split
 ·rfl
 ·rcases h with h | h
  ·exact h
  ·exact absurd h (by assumption)
theorem Zh5 {l:List Nat}{kvs:List (Key×V)}(h1:Sound l kvs)(h0:(valV kvs (kTx [])).isSome=true)(h2:∀s e,s<l.length→s≤e→e≤l.length→(valV kvs (kTx ((l.drop s).take (e-s)))).isSome=true):Zli l kvs:=by
 refine⟨h1,fun x=>?_⟩
 rw[Bool.eq_iff_iff,Zfk]
 constructor
 ·intro h
  obtain⟨v,hv⟩:=Option.isSome_iff_exists.mp h
  obtain⟨kv,hk,ek⟩:=List.mem_map.mp (Zdg hv)
  obtain⟨y,ey,hy⟩:=h1 kv hk
  rw[←ZgW (ek.symm.trans ey)]at hy
  exact hy
 ·intro h
  obtain⟨s,e,a,b,rfl⟩:=ZkW h
  by_cases c:s<l.length
  ·exact h2 s e c a b
  ·have:(l.drop s).take (e-s)=[]:=by rw[List.drop_eq_nil_of_le (by omega)];simp
   rw[this];exact h0
theorem Zdq {K:PySem.W.Frag}{H:Hp}{Q:VK}{v:V}(hv:v=.non∨∃j:Int,v=.int j)(q:Q (.bl false) H):rEqD K true v v H Q:=by
 rcases hv with rfl | ⟨j,rfl⟩
 ·exact .inl ⟨rfl,by rw[if_pos rfl,decide_eq_true rfl];exact q⟩
 ·exact .inl ⟨rfl,by rw[if_pos rfl,decide_eq_true rfl];exact q⟩
theorem MachAt.nd {C:Addr}{H:Hp}{p:Addr}{l m:List Nat}{sp:List (List Nat)}(r:MachAt C H p l m sp):sp.Nodup:=by obtain⟨_,_,_,_,_,h⟩:=r;exact h.nd
def WordAt (H:Hp)(ws:List (List Nat))(i:Nat)(y:V):Prop:=∃(t d:Addr) (w:List Nat),y=.ref t∧H t=some (.tup [tx w,.ref d])∧ws[i]?=some w
theorem WordAt.same {H H':Hp}{ws:List (List Nat)}{i:Nat}{y:V}(h:WordAt H ws i y)(s:Same H H'):WordAt H' ws i y:=by
 obtain⟨t,d,w,e,h1,h2⟩:=h
 exact⟨t,d,w,e,s _ _ h1,h2⟩
theorem WordAt.other {H:Hp}{a:Addr}{o0 o:HO}{ws:List (List Nat)}{i:Nat}{y:V}(r:WordAt H ws i y)(h:H a=some o0)(hne:∀xs,o0≠.tup xs):WordAt (upd H a o) ws i y:=by
 obtain⟨t,d,w,e,h1,h2⟩:=r
 refine⟨t,d,w,e,?_,h2⟩
 rw[Zac (fun z=>by rw[z,h]at h1;exact hne _ (Option.some.inj h1))]
 exact h1
theorem WordAt.more {H:Hp}{ws more:List (List Nat)}{i:Nat}{y:V}(r:WordAt H ws i y):WordAt H (ws++more) i y:=by
 obtain⟨t,d,w,e,h1,h2⟩:=r
 exact⟨t,d,w,e,h1,by rw[List.getElem?_append_left (List.getElem?_eq_some_iff.mp h2).1];exact h2⟩
theorem RInv.one {H:Hp}{ps pw pn:Addr}{l:List Nat}{sp ws:List (List Nat)}{ts:List Addr}(r:RInv H ps pw pn l sp ws ts):∀u∈ws,∀v∈ws,Zad l u=Zad l v→u=v:=by
 intro u hu v hv e
 obtain⟨i,hi,rfl⟩:=List.mem_iff_getElem.mp hu
 obtain⟨j,hj,rfl⟩:=List.mem_iff_getElem.mp hv
 have hi':i<sp.length:=by rw[←r.wl];exact hi
 have hj':j<sp.length:=by rw[←r.wl];exact hj
 have a:=(r.wt i _ _ (List.getElem?_eq_getElem hi) (List.getElem?_eq_getElem hi')).1
 have b:=(r.wt j _ _ (List.getElem?_eq_getElem hj) (List.getElem?_eq_getElem hj')).1
 have z:i=j:=Zcb r.nd (List.getElem?_eq_getElem hi') (by rw[List.getElem?_eq_getElem hj',b,←e,←a])
 subst z
 rfl
theorem RInv.word {H:Hp}{ps pw pn:Addr}{l:List Nat}{sp ws:List (List Nat)}{ts:List Addr}(r:RInv H ps pw pn l sp ws ts){j:Nat}{s:List Nat}(h:sp[j]?=some s):∃x∈ws,Zad l x=s:=by
 have hj:j<ws.length:=by rw[r.wl];exact(List.getElem?_eq_some_iff.mp h).1
 exact⟨ws[j],List.getElem_mem hj,(r.wt j _ _ (List.getElem?_eq_getElem hj) h).1.symm⟩
theorem RInv.spot {H:Hp}{ps pw pn:Addr}{l:List Nat}{sp ws:List (List Nat)}{ts:List Addr}(r:RInv H ps pw pn l sp ws ts)(i:Nat)(w:List Nat)(h:ws[i]?=some w):sp[i]?=some (Zad l w):=by
 have hi:i<sp.length:=by rw[←r.wl];exact(List.getElem?_eq_some_iff.mp h).1
 rw[List.getElem?_eq_getElem hi,(r.wt i _ _ h (List.getElem?_eq_getElem hi)).1]
theorem RInv.inf {H:Hp}{ps pw pn:Addr}{l:List Nat}{sp ws:List (List Nat)}{ts:List Addr}(r:RInv H ps pw pn l sp ws ts):∀w∈ws,Inf w l:=by
 intro w hw
 obtain⟨i,hi,rfl⟩:=List.mem_iff_getElem.mp hw
 have hi':i<sp.length:=by rw[←r.wl];exact hi
 exact(r.wt i _ _ (List.getElem?_eq_getElem hi) (List.getElem?_eq_getElem hi')).2
structure MachW (C:Addr)(H:Hp)(p:Addr)(l m:List Nat)(sp ws:List (List Nat)):Prop where
 mach:MachAt C H p l m sp
 wds:∃(dx q:Addr) (ys:List V),H p=some (.ins C dx (Zeb m q))∧H q=some (.lst ys)∧ys.length=sp.length∧∀i y,ys[i]?=some y→WordAt H ws i y
 num:Numb l m ws
 len:ws.length=sp.length
 spt:∀(i:Nat) (w:List Nat),ws[i]?=some w→sp[i]?=some (Zad l w)
theorem MachW.same {C:Addr}{H H':Hp}{p:Addr}{l m:List Nat}{sp ws:List (List Nat)}(r:MachW C H p l m sp ws)(s:Same H H'):MachW C H' p l m sp ws:=by
 obtain⟨dx,q,ys,h1,h2,h3,h4⟩:=r.wds
 exact⟨r.mach.same s,⟨dx,q,ys,s _ _ h1,s _ _ h2,h3,fun i y e=>(h4 i y e).same s⟩,r.num,r.len,r.spt⟩
theorem Zh8 {m:List Nat}(h:isk m=true):m.Pairwise (· < ·):=by
 unfold isk at h
 simp only[Bool.and_eq_true,decide_eq_true_iff]at h
 exact(Zc0 m).mp h.2
def Zbq (l w:List Nat):List Nat:=((List.range (l.length+1)).filter fun i=>decide (AtW l w i)).map fun i=>i+w.length
def Zi4 (l w:List Nat):List (List Nat):=(Zad l w).map fun e=>l.drop e
def Zdk (l w:List Nat):List Key:=(Zbk (Zi4 l w)).map kTx
def txK:Key→List Nat
 | .inl _=>[]
 | .inr s=>s.cps.toList
noncomputable def onwL (kvs:List (Key×V)) (w:List Nat):List (List Nat):=((kvs.map fun p=>txK p.1).filter fun x=>startsB x w).map fun x=>x.drop w.length
noncomputable def onwK (kvs:List (Key×V)) (w:List Nat):List Key:=(Zbk (onwL kvs w)).map kTx
theorem Zfi {xs ys:List (List Nat)}(h:xs.map kTx=ys.map kTx):xs=ys:=by
 have e:∀zs:List (List Nat),(zs.map kTx).map txK=zs:=fun zs=>by
  rw[List.map_map]
  conv=>rhs;rw[←List.map_id zs]
  exact List.map_congr_left fun x _=>by simp[txK,kTx]
 rw[←e xs,h,e ys]
theorem Zcn {l:List Nat}(u v:List Nat):Zdk l u=Zdk l v↔Zad l u=Zad l v:=by
 constructor
 ·intro h
  have:=Zfi h
  exact Zgr ((ZaI _).symm.trans (this▸ZaI _))
 ·intro h
  unfold Zdk Zi4
  rw[h]
def Za5 (l w:List Nat)(n:Nat):List Nat:=((List.range n).filter fun i=>decide (AtW l w i)).map fun i=>i+w.length
theorem ZcH {l w:List Nat}{i:Nat}(h:AtW l w i):Za5 l w (i+1)=Za5 l w i++[i+w.length]:=by
 unfold Za5
 rw[List.range_succ,List.filter_append,List.map_append]
 simp[h]
theorem ZcI {l w:List Nat}{n:Nat}:∀(k:Nat),(∀j,n≤j→j<n+k→¬AtW l w j)→Za5 l w (n+k)=Za5 l w n
 | 0,_=>rfl
 | k+1,h=>by
  rw[←ZcI k fun j h1 h2=>h j h1 (by omega)]
  unfold Za5
  rw[←Nat.add_assoc,List.range_succ,List.filter_append,List.map_append]
  have:=h (n+k) (by omega) (by omega)
  simp[this]
theorem Zbx {l w:List Nat}{n m:Nat}(hn:n≤m)(h:∀j,n≤j→j<m→¬AtW l w j):Za5 l w m=Za5 l w n:=by
 have:=ZcI (l:=l) (w:=w) (n:=n) (m-n) fun j h1 h2=>h j h1 (by omega)
 rwa [show n+(m-n)=m by omega]at this
theorem Zc9 (l w:List Nat)(n:Nat):(Za5 l w n).length≤n:=by
 unfold Za5
 rw[List.length_map]
 exact Nat.le_trans (List.length_filter_le ..) (by simp)
theorem ZhV {kvs:List (Key×V)}{k:Key}(v:V)(hn:(kvs.map (·.1)).Nodup):((putK kvs k v).map (·.1)).Nodup:=by
 cases h:valV kvs k with
 | none=>exact Zjh v hn h
 | some x=>
  have e:(putK kvs k v).map (·.1)=kvs.map (·.1):=by
   unfold putK
   rw[if_pos (by obtain⟨kv,hk,ek⟩:=List.mem_map.mp (Zdg h);exact List.any_eq_true.mpr ⟨kv,hk,decide_eq_true ek⟩),List.map_map]
   refine List.map_congr_left fun p _=>?_
   show (if p.1=k then (p.1,v) else p).1=p.1
   split<;>rfl
  rw[e];exact hn
def KnownD (l:List Nat)(kvs:List (Key×V)):Prop:=Zli l kvs∧(kvs.map (·.1)).Nodup∧kvs.length≤3000
def SoundD (l:List Nat)(kvs:List (Key×V)):Prop:=Sound l kvs∧(kvs.map (·.1)).Nodup
theorem SoundD.put {l x:List Nat}{kvs:List (Key×V)}{v:V}(h:SoundD l kvs)(hx:Inf x l):SoundD l (putK kvs (kTx x) v):=⟨h.1.put hx,ZhV v h.2⟩
def ZaX (kvs:List (Key×V)):List (List Nat):=kvs.map fun p=>txK p.1
theorem KnownD.keys {l:List Nat}{kvs:List (Key×V)}(h:KnownD l kvs):kvs.map (·.1)=(ZaX kvs).map kTx:=by
 unfold ZaX
 rw[List.map_map]
 refine List.map_congr_left fun p hp=>?_
 obtain⟨x,e,_⟩:=h.1.1 p hp
 show p.1=kTx (txK p.1)
 rw[e];simp[txK,kTx]
theorem ZeI (x:List Nat):txK (kTx x)=x:=by simp[txK,kTx]
theorem KnownD.mem {l:List Nat}{kvs:List (Key×V)}(h:KnownD l kvs)(x:List Nat):x∈ZaX kvs↔Inf x l:=by
 constructor
 ·intro hx
  obtain⟨p,hp,rfl⟩:=List.mem_map.mp hx
  obtain⟨y,e,i⟩:=h.1.1 p hp
  rw[e,ZeI];exact i
 ·intro hx
  have z:=h.1.2 x
  rw[Zfk.mpr hx]at z
  obtain⟨v,hv⟩:=Option.isSome_iff_exists.mp z
  obtain⟨kv,hk,ek⟩:=List.mem_map.mp (Zdg hv)
  exact List.mem_map.mpr ⟨kv,hk,by rw[ek,ZeI]⟩
theorem KnownD.nd {l:List Nat}{kvs:List (Key×V)}(h:KnownD l kvs):(ZaX kvs).Nodup:=by
 have:=h.2.1
 rw[h.keys]at this
 exact(List.pairwise_map.mp this).imp fun {a b} n e=>n (by rw[e])
theorem Zdp {l:List Nat}{kvs:List (Key×V)}(h:KnownD l kvs)(w x:List Nat):x∈onwL kvs w↔Inf (w++x) l:=by
 unfold onwL
 rw[List.mem_map]
 constructor
 ·rintro⟨y,hy,rfl⟩
  rw[List.mem_filter,Zbb]at hy
  obtain⟨t,rfl⟩:=hy.2
  rw[List.drop_left]
  exact(h.mem _).mp hy.1
 ·intro i
  exact⟨w++x,List.mem_filter.mpr ⟨(h.mem _).mpr i,Zbb.mpr (List.prefix_append _ _)⟩,List.drop_left⟩
theorem Ziw {l:List Nat}{kvs:List (Key×V)}(h:KnownD l kvs)(w:List Nat):(onwL kvs w).Nodup:=by
 unfold onwL
 refine List.pairwise_map.mpr ((h.nd.filter _).imp_of_mem fun {a b} ha hb n e=>n ?_)
 rw[List.mem_filter,Zbb]at ha hb
 obtain⟨t,rfl⟩:=ha.2
 obtain⟨s,rfl⟩:=hb.2
 rw[List.drop_left,List.drop_left]at e
 rw[e]
theorem ZhS {l:List Nat}{kvs:List (Key×V)}(h:KnownD l kvs)(u v:List Nat):onwK kvs u=onwK kvs v↔Zad l u=Zad l v:=by
 constructor
 ·intro e
  have:=Zfi e
  have p:(onwL kvs u).Perm (onwL kvs v):=(ZaI _).symm.trans (this▸ZaI _)
  exact ZfE fun x=>by rw[←Zdp h,←Zdp h];exact p.mem_iff
 ·intro e
  unfold onwK
  rw[Zci ((List.perm_ext_iff_of_nodup (Ziw h u) (Ziw h v)).mpr fun x=>by rw[Zdp h,Zdp h];exact Zf3 e x)]
def Zco (l w:List Nat):List (List Nat):=(Zbq l w).map fun e=>l.drop e
noncomputable def farB (ls:List (List Nat)) (r:List Nat):Bool:=decide ((ls.filter fun x=>decide (¬x=r)&&startsB x r)=[])
theorem Zie {ls:List (List Nat)}{r:List Nat}:farB ls r=true↔∀x∈ls,x≠r→¬r <+: x:=by
 unfold farB
 rw[decide_eq_true_iff,List.filter_eq_nil_iff]
 constructor
 ·intro h x hx ne pre
  exact h x hx (by rw[Zbb.mpr pre,decide_eq_true ne];rfl)
 ·intro h x hx z
  rw[Bool.and_eq_true,decide_eq_true_iff,Zbb]at z
  exact h x hx z.1 z.2
theorem ZhH (l w:List Nat):(Zco l w).filter (farB (Zco l w))=Zi4 l w:=by
 have e:Zco l w=((List.range (l.length+1)).filter fun i=>decide (AtW l w i)).map fun i=>l.drop (i+w.length):=by
  unfold Zco Zbq
  rw[List.map_map];rfl
 have m:∀x,x∈Zco l w↔∃j,AtW l w j∧x=l.drop (j+w.length):=fun x=>by
  rw[e,List.mem_map]
  constructor
  ·rintro⟨j,hj,rfl⟩
   rw[List.mem_filter,decide_eq_true_iff]at hj
   exact⟨j,hj.2,rfl⟩
  ·rintro⟨j,hj,rfl⟩
   exact⟨j,List.mem_filter.mpr ⟨List.mem_range.mpr (by have:=hj.1;omega),decide_eq_true hj⟩,rfl⟩
 have key:=ZhG (l:=l) (w:=w) (farB (Zco l w)) fun i hi=>by
  rw[Zie]
  constructor
  ·intro h j hj ne pre
   exact h _ ((m _).mpr ⟨j,hj,rfl⟩) ne pre
  ·intro h x hx ne pre
   obtain⟨j,hj,rfl⟩:=(m x).mp hx
   exact h j hj ne pre
 rw[←e]at key
 exact key
theorem Zda (l w:List Nat):(Zbq l w).length≤l.length+1:=Zc9 l w _
theorem Zgs (l w:List Nat):(Zco l w).length≤l.length+1:=by unfold Zco;rw[List.length_map];exact Zda l w
theorem ZbJ {H H':Hp}{P p:Addr}{pos:Pos}{q:Str}{kvs:List (List Key×V)}(t:TblOk H P pos q)(hp:H p=some (.dT kvs))(s:∀b o,H b=some o→b≠p→H' b=some o):TblOk H' P pos q:=by
 obtain⟨ps,e,tr,h⟩:=t
 exact⟨ps,s _ _ e (fun z=>by rw[z,hp]at e;cases e),tr,h.imp id fun ⟨c,e1,e2⟩=>⟨c,e1,s _ _ e2 (fun z=>by rw[z,hp]at e2;cases e2)⟩⟩
def fKV (f:List Nat→List Key)(ds:List (List Nat)):List (List Key×V):=ds.map fun d=>(f d,tx d)
theorem Zfo (f:List Nat→List Key)(ds:List (List Nat)):(fKV f ds).map (·.2)=ds.map tx:=by unfold fKV;rw[List.map_map];rfl
theorem ZiE {f:List Nat→List Key}{ds:List (List Nat)}{k:List Key}{v:V}(h:valV (fKV f ds) k=some v):k∈ds.map f:=by
 have:=Zdg h
 unfold fKV at this
 rw[List.map_map]at this
 exact this
theorem Zg9 {f:List Nat→List Key}{ds:List (List Nat)}{k:List Key}(h:valV (fKV f ds) k=none):k∉ds.map f:=by
 have:=ZeX h
 unfold fKV at this
 rw[List.map_map]at this
 exact this
theorem Zg8 {f:List Nat→List Key}{ds:List (List Nat)}{w:List Nat}(h:valV (fKV f ds) (f w)=none):putK (fKV f ds) (f w) (tx w)=fKV f (ds++[w]):=by
 rw[Zdm _ h];unfold fKV;rw[List.map_append];rfl
theorem Zg6 {κ κ':Type}{f:List Nat→κ}{g:List Nat→κ'}{ks ks' ds ds':List (List Nat)}(h1:Firs f ks ds)(h2:Firs g ks' ds')(hk:∀w,w∈ks↔w∈ks')(hfg:∀u v,f u=f v↔g u=g v):ds=ds':=by
 have half:∀ {κ κ':Type} {f:List Nat→κ} {g:List Nat→κ'} {ks ks' ds ds':List (List Nat)},Firs f ks ds→Firs g ks' ds'→(∀w,w∈ks↔w∈ks')→(∀u v,f u=f v↔g u=g v)→∀w,w∈ds→w∈ds':=by
  intro κ κ' f g ks ks' ds ds' h1 h2 hk hfg w hw
  obtain⟨u,hu,e,nu⟩:=h2.all w ((hk w).mp (h1.sub w hw))
  obtain⟨x,hx,ex,nx⟩:=h1.all u ((hk u).mpr (h2.sub u hu))
  have:=h1.one x hx w hw (ex.trans ((hfg u w).mpr e))
  rw[this]at nx
  by_cases z:w=u
  ·rw[z];exact hu
  ·exact absurd (ZcO nu z) nx
 exact ZbV h1.srt h2.srt fun w=>⟨half h1 h2 hk hfg w,half h2 h1 (fun w=>(hk w).symm) (fun u v=>(hfg u v).symm) w⟩
theorem Zdr {K:PySem.W.Frag}{H:Hp}{Q:VK}{a b:Addr}{xs:List V}(h1:SqL K H a xs)(h2:SqL K H b xs)(f:xs.all Zbp=true)(q:Q (.bl false) H):rEqD K true (.ref a) (.ref b) H Q:=
 .inr ⟨_,_,datL h1 f,datL h2 f,fun z=>Bool.false_ne_true z.1,(ownL h1 f).2.2,by
  rw[show deq _ _=true from(ownL h1 f).2.1]
  exact q⟩
theorem ZiN {ls:List (List Nat)}{i:Nat}{w:List Nat}(h:ls[i]?=some w):atI (ls.map tx) ((i:Nat):Int)=some (tx w):=by
 have hi:=(List.getElem?_eq_some_iff.mp h).1
 unfold atI ixN
 rw[if_pos (by omega),if_pos (by rw[List.length_map];omega),Option.bind_some,Int.toNat_natCast,List.getElem?_map,h]
 rfl
def wayV (l:List Nat)(sp:List (List Nat))(s:List Nat)(c:Nat):V:=if Zav l s c=[] then .non else .int ((sp.idxOf (Zav l s c):Nat):Int)
theorem Zf8 {l:List Nat}{sp:List (List Nat)}{s:List Nat}{c:Nat}{o:Option V}(nd:sp.Nodup)(h:Way l sp s c o):o.getD .non=wayV l sp s c:=by
 unfold wayV
 rcases h with⟨e,rfl⟩|⟨e,j,hj,rfl⟩
 ·rw[if_pos e];rfl
 ·rw[if_neg e]
  have hm:Zav l s c∈sp:=List.mem_of_getElem? hj
  have hi:sp.idxOf (Zav l s c)<sp.length:=List.idxOf_lt_length_iff.mpr hm
  have:=Zcb nd hj (by rw[List.getElem?_eq_getElem hi,List.getElem_idxOf])
  rw[←this];rfl
theorem Zf7 (l:List Nat)(sp:List (List Nat))(s:List Nat)(c:Nat):Zbp (wayV l sp s c)=true:=by
 unfold wayV
 split<;>rfl
theorem Zjw {xs:List V}(h:∀v∈xs,Zbp v=true):xs.all Zbp=true:=List.all_eq_true.mpr h
theorem MachW.spots {C:Addr}{H:Hp}{p:Addr}{l m:List Nat}{sp ws:List (List Nat)}(r:MachW C H p l m sp ws):sp=ws.map (Zad l):=by
 apply List.ext_getElem?
 intro i
 rw[List.getElem?_map]
 cases h:ws[i]? with
 | some w=>rw[r.spt i w h];rfl
 | none=>
  rw[List.getElem?_eq_none_iff]at h
  rw[List.getElem?_eq_none_iff.mpr (by rw[←r.len];exact h)]
  rfl
theorem Zfy {C T:Hp→Prop}{R:Prop}(h1:(∀H,C H→T H)→R)(h2:∀H,C H→T H):R:=h1 h2
def Zlx (K:PySem.W.Frag)(a:Ad):Sp:=fun vs H Q _=>∃l m,vs=[tx l,tx m]∧l.length≤1000∧∀H2,Same H H2→Q (.bl (l.all fun c=>m.contains c)) H2
def Zlw (K:PySem.W.Frag)(a:Ad):Sp:=fun vs H Q _=>∃l,vs=[tx l]∧l.length≤1000∧∀H2,Same H H2→Q (.bl (isk l)) H2
def Zlu (K:PySem.W.Frag)(a:Ad):Sp:=fun vs H Q _=>∃l m most,vs=[tx l,tx m,.int most]∧l.length≤1000∧∀H2,Same H H2→Q (.bl (isw l m most)) H2
def ZlC (K:PySem.W.Frag)(a:Ad):Sp:=fun vs H Q _=>∃l,vs=[tx l]∧l.length≤1000∧isk l=true∧∀H2,Same H H2→Q .non H2
def Zlz (K:PySem.W.Frag)(a:Ad):Sp:=fun vs H Q _=>∃l m most,vs=[tx l,tx m,.int most]∧l.length≤1000∧isw l m most=true∧∀H2,Same H H2→Q .non H2
def ZlQ (K:PySem.W.Frag)(a:Ad):Sp:=fun vs H Q _=>∃c k,vs=[.int c,.int k]∧∀r:Int,0≤r→Q (.int r) H
def ZlS (K:PySem.W.Frag)(a:Ad):Sp:=fun vs H Q _=>∃(b:Addr) (ns:List Int) (k:Int),vs=[.ref b,.int k]∧SqL K H b (ns.map V.int)∧0≤k∧∀r:Int,Q (.int r) H
def ZlB (K:PySem.W.Frag)(a:Ad):Sp:=fun vs H Q _=>∃(c:Nat) (m:List Nat),vs=[tx [c],tx m]∧c∈m∧∀H2,Same H H2→Q (.bl true) H2
def ZlD (K:PySem.W.Frag)(a:Ad):Sp:=fun vs H Q _=>∃(c:Nat) (m:List Nat),vs=[tx [c],tx m]∧c∈m∧∀H2,Same H H2→Q .non H2
def ZlA (K:PySem.W.Frag)(a:Ad):Sp:=fun vs H Q _=>∃(x y z:Int),vs=[.int x,.int y,.int z]∧Q (.bl (decide (y≤x)&&decide (x≤z))) H
def ZlE (K:PySem.W.Frag)(a:Ad):Sp:=fun vs H Q _=>∃(l:List Nat),vs=[tx l]∧l.length≤40∧∀p H2,Same H H2→H p=none→H2 p=some (.tup ((ZaC l).map fun (i:Nat)=>.int i))→Q (.ref p) H2
def ZlH (K:PySem.W.Frag)(a:Ad):Sp:=fun vs H Q _=>∃(l S:List Nat) (c:Nat) (t:Addr),vs=[tx l,.ref t,tx [c]]∧l.length≤40∧H t=some (.tup (S.map fun (i:Nat)=>.int i))∧S.length≤41∧∀p H2,Same H H2→H p=none→H2 p=some (.tup ((Zav l S c).map fun (i:Nat)=>.int i))→Q (.ref p) H2
def Zlv (K:PySem.W.Frag)(a:Ad):Sp:=fun vs H Q _=>∃(l m:List Nat),vs=[tx l,tx m]∧l.length≤40∧m.length≤4∧(∀c∈l,c∈m)∧m.Pairwise (· < ·)∧∀(p:Addr) (sp ws:List (List Nat)) (ys:List V) (H2:Hp),Same H H2→H p=none→H2 p=some (.lst ys)→MachOk H2 l m sp ys→(∀i y,ys[i]?=some y→WordAt H2 ws i y)→Numb l m ws→ws.length=sp.length→(∀(i:Nat) (w:List Nat),ws[i]?=some w→sp[i]?=some (Zad l w))→Q (.ref p) H2
def ZlI (K:PySem.W.Frag)(a:Ad):Sp:=fun vs H Q _=>∃(p dx:Addr) (l m:List Nat),vs=[.ref p,tx l,tx m]∧H p=some (.ins a.c_KW dx [])∧StripOk l m∧∀sp ws H2,MachW a.c_KW H2 p l m sp ws→(∀b o,H b=some o→b≠p→H2 b=some o)→Q .non H2
def ZlJ (K:PySem.W.Frag)(a:Ad):Sp:=fun vs H Q _=>∃(p:Addr) (l m:List Nat) (sp:List (List Nat)),vs=[.ref p]∧MachAt a.c_KW H p l m sp∧Q (.int (sp.length:Nat)) H
def ZlM (K:PySem.W.Frag)(a:Ad):Sp:=fun vs H Q _=>∃(p:Addr) (l m:List Nat) (sp:List (List Nat)) (i:Nat),vs=[.ref p,.int i]∧MachAt a.c_KW H p l m sp∧i<sp.length∧Q .non H
def ZlG (K:PySem.W.Frag)(a:Ad):Sp:=fun vs H Q _=>∃(p:Addr) (l m:List Nat) (sp:List (List Nat)) (i:Nat) (s:List Nat) (c:Nat),vs=[.ref p,.int i,tx [c]]∧MachAt a.c_KW H p l m sp∧sp[i]?=some s∧c∈m∧∀o,Way l sp s c o→Q (o.getD .non) H
def ZlF (K:PySem.W.Frag)(a:Ad):Sp:=fun vs H Q _=>∃(p:Addr) (l m:List Nat) (sp:List (List Nat)) (i:Nat) (s:List Nat) (c:Nat),vs=[.ref p,.int i,tx [c]]∧MachAt a.c_KW H p l m sp∧sp[i]?=some s∧c∈m∧∀o H2,Same H H2→Way l sp s c o→Q (o.getD .non) H2
def ZlL (K:PySem.W.Frag)(a:Ad):Sp:=fun vs H Q _=>∃(p:Addr) (l m:List Nat) (sp:List (List Nat)) (w:List Nat),vs=[.ref p,tx w]∧MachAt a.c_KW H p l m sp∧w.length≤60∧(∀c∈w,c∈m)∧∀v H2,Same H H2→Zlh l sp w v→Q v H2
def Zls (K:PySem.W.Frag)(a:Ad):Sp:=fun vs H Q _=>∃c:Int,vs=[.int c]∧∀m:List Nat,isk m=true→1≤m.length→m.length≤4→Q (tx m) H
def ZlT (K:PySem.W.Frag)(a:Ad):Sp:=fun vs H Q _=>∃(c:Int) (d:Bool) (m:List Nat) (n:Int),vs=[.int c,.bl d,tx m,.int n]∧1≤m.length∧m.length≤4∧0≤n∧n≤60∧∀l:List Nat,l.length=n.toNat→(∀x∈l,x∈m)→Q (tx l) H
def ZlR (K:PySem.W.Frag)(a:Ad):Sp:=fun vs H Q _=>∃(c d:Int) (m:List Nat),vs=[.int c,.int d,tx m,.int 40]∧1≤m.length∧m.length≤4∧∀l:List Nat,l.length≤40→(∀x∈l,x∈m)→Q (tx l) H
def Zly (K:PySem.W.Frag)(a:Ad):Sp:=fun vs H Q _=>∃(l:List Nat),vs=[tx l]∧l.length≤40∧∀(p:Addr) (kvs:List (Key×V)) (H2:Hp),Same H H2→H p=none→H2 p=some (.dK kvs)→KnownD l kvs→Q (.ref p) H2
def ZlK (K:PySem.W.Frag)(a:Ad):Sp:=fun vs H Q _=>∃(p:Addr) (l m:List Nat) (sp ws:List (List Nat)) (i:Nat) (w:List Nat),vs=[.ref p,.int i]∧MachW a.c_KW H p l m sp ws∧ws[i]?=some w∧Q (tx w) H
def ZlN (K:PySem.W.Frag)(a:Ad):Sp:=fun vs H Q _=>∃(l w:List Nat),vs=[tx l,tx w]∧l.length≤40∧Inf w l∧∀p H2,Same H H2→H p=none→H2 p=some (.lst ((Zbq l w).map fun (i:Nat)=>.int i))→Q (.ref p) H2
def ZlP (K:PySem.W.Frag)(a:Ad):Sp:=fun vs H Q _=>∃(l w:List Nat),vs=[tx l,tx w]∧l.length≤40∧Inf w l∧∀p H2,Same H H2→H p=none→H2 p=some (.tup ((Zdk l w).map kV))→Q (.ref p) H2
def ZlU (K:PySem.W.Frag)(a:Ad):Sp:=fun vs H Q _=>∃(l w:List Nat) (pq:Addr) (kvs:List (Key×V)),vs=[tx l,tx w,.ref pq]∧l.length≤40∧H pq=some (.dK kvs)∧KnownD l kvs∧Inf w l∧∀p H2,Same H H2→H p=none→H2 p=some (.tup ((onwK kvs w).map kV))→Q (.ref p) H2
def Zlt (K:PySem.W.Frag)(a:Ad):Sp:=fun vs H Q _=>∃(l:List Nat) (pq:Addr) (kvs:List (Key×V)),vs=[tx l,.ref pq]∧l.length≤40∧H pq=some (.dK kvs)∧KnownD l kvs∧TblOk H a.t_KY Zh0 lqF∧∀(p:Addr) (ks ds:List (List Nat)) (H2:Hp),SameT Zh0 H H2→TblOk H2 a.t_KY Zh0 lqF→H2 p=some (.lst (ds.map tx))→(∀w,w∈ks↔Inf w l)→Firs (Zdk l) ks ds→ds.length≤3000→Q (.ref p) H2
def ZlO (K:PySem.W.Frag)(a:Ad):Sp:=fun vs H Q _=>∃(l:List Nat) (pq:Addr) (kvs:List (Key×V)),vs=[tx l,.ref pq]∧l.length≤40∧H pq=some (.dK kvs)∧KnownD l kvs∧TblOk H a.t_K6 ZgO lqS∧∀(p:Addr) (ks ds:List (List Nat)) (H2:Hp),SameT ZgO H H2→TblOk H2 a.t_K6 ZgO lqS→H2 p=some (.lst (ds.map tx))→(∀w,w∈ks↔Inf w l)→Firs (onwK kvs) ks ds→ds.length≤3000→Q (.ref p) H2
def spLaw (K:PySem.W.Frag)(tb:Str→Addr×Addr):Sp:=fun vs H Q _=>∃(b:Addr) (ns:List Int),vs=[.ref b]∧SqL K H b (ns.map V.int)∧ns.length≤63∧TblOk H (tb "_law_sorts").2 ZgO lqS∧TblOk H (tb "_law_firsts").2 Zh0 lqF∧∀H2,Q (.bl true) H2
section
variable {P:Program}{w:World}{K:PySem.W.Frag}{mg:Str→Option Value}{base:Heap}{a:Ad}{tb:Str→Addr×Addr}
local macro_rules | `(tactic| walk_at "r0") => `(tactic| simp only [tSeq, tAsg, tPar, tOp, tUn, tVar, tC, Zb1, gNil, ZmN, tRet, Zln, tIfS, ZjT, tB, tNot, tAnd, tOr, Zj7, tOrV, Zlo, tIf, Zj0, tNil, Zj3, Zml, Zmi, Zmk, Zmj, Zmn, Zj6, tCB, Zll, Zme, ZjR, tBM, tBM0, tSl, ZjV, tNoPart, tNext, L2.start, cxK, bxK, cxPr, cxWo, suxK, Zlr, Zlq, ZjU, tTry, Zj5, Zmg, Zj8, sIfx, hAs, Zk2, ZmM, unE, ZjS, Zj1, Ze1, Zmm, Zkf, ZkZ, ZkY, Zjs, iTup, ZmL, ZkX, gTup, pick, Option.bind_some, Option.bind_none, Option.join_some, Option.join_none, List.map_cons, List.map_nil, List.length_cons, List.length_nil, Nat.zero_add, Nat.reduceAdd, Nat.reduceSub, List.replicate_succ, List.replicate_zero, List.cons_append, List.nil_append, List.append_nil, List.getElem?_cons_zero, List.getElem?_cons_succ, List.set_cons_zero, List.set_cons_succ, q_I, q_I0, q_U, q_T, q_b, q_var, q_var', iZip, Zi5, ZjY, ZiU, tFld, sFld, sNo, tAug, Zj4, Zka, ZjW, ZjX, tDNewK, Zj9, tDIn, Zgj, Zlp, Zmh, Zmf, Zk0, Zgi, Zj2, Zir, tAug, ipI, Zgh, tListVT, tDSetT, tDNewT])
local macro_rules | `(tactic| walk_at "r1") => do
 let some t ←Lean.Macro.expandMacro? (←`(tactic| walk_at "r0")) | Lean.Macro.throwUnsupported
 match (⟨t⟩:Lean.TSyntax `tactic) with
 | `(tactic| simp only[$l,*])=>let d:=⟨l.elemsAndSeps⟩;`(tactic| dsimp only[$d,*])
 | _=>Lean.Macro.throwUnsupported
local macro_rules | `(tactic| walk_at "rd") => `(tactic| first | (walk_at "r1"; try walk_at "r0") | walk_at "r0")
local macro_rules | `(tactic| walk_at "sc") => `(tactic| exact ⟨rfl, rfl, rfl, by decide +kernel, rfl, by decide +kernel, by decide +kernel⟩)
local macro_rules | `(tactic| walk_at "rd?") => `(tactic| (try walk_at "rd"))
theorem ZlY:FnScope ["text","letters"] ["text","letters"] (Zai s_KT):=by walk_at "sc"
theorem Zkt (T:TL K mg base a tb):FnOk P w K mg base CX0 1 a.f_KT a.d_KT ["text","letters"] (Zlx K a):=by
 refine T.f_KT.ok ZlY (fun vs H Q E h=>?_) (fun cdv A outer s H vs Q E hr h=>?_)
 ·obtain⟨_,_,rfl,_⟩:=h;rfl
 ·have hu64:=hr.units
  have hu1:=ZaM hr
  obtain⟨l,m,rfl,hl,q⟩:=h
  refine⟨_,(Zag (Zat (Zal (Zhl rfl) rfl T.z_all Zlg (Zaa (Zbv (N:=["sign","letters"]) (ix:=[none,some 1]) rfl (Za0 rfl) rfl (Zcq (pv 0)) (fun _ _ _ _=>(ZaD (i:=0) (show (["sign","letters"]:List Str).Nodup from by decide +kernel) rfl (Or.inl rfl) (Or.inr rfl))) (fun _ _ _ _=>ZbM) (fun _ _ _ _=>(Zbm ZfN (pv 0) (pv 1) rfl))) Zae)))),?_⟩
  walk_at "rd"
  refine⟨l,rfl,CompRun.text (fun _=>true) (fun i=>.bl (decide (l.getD i 0∈m))) hl ?_ ?_ ?_⟩
  ·intro i H1 Q1 hi s1 q1;exact q1 H1 (Same.refl _)
  ·intro i H1 Q1 hi _ s1 q1
   walk_at "rd"
   exact⟨_,m,rfl,rfl,q1 H1 (Same.refl _)⟩
  ·intro p H1 s1 n1 l1
   refine⟨p,(List.range l.length).map (fun i=>decide (l.getD i 0∈m)),rfl,?_,?_⟩
   ·rw[l1,filter_all,List.map_map];rfl
   ·rw[all_range];exact q H1 s1
theorem Zl0:FnScope ["thing","least","most"] ["thing","least","most"] (Zai s_KQ):=by walk_at "sc"
theorem Zmx (T:TL K mg base a tb):FnOk P w K mg base CX0 1 a.f_KQ a.d_KQ ["thing","least","most"] (ZlA K a):=by
 refine T.f_KQ.ok Zl0 (fun vs H Q E h=>?_) (fun cdv A outer s H vs Q E hr h=>?_)
 ·obtain⟨_,_,_,rfl,_⟩:=h;rfl
 ·have hu64:=hr.units
  have hu1:=ZaM hr
  obtain⟨x,y,z,rfl,q⟩:=h
  refine⟨_,(Zab (Zbd (PW.pt (ZeA (Zbt (Zal (ZaY (K:=K) rfl) rfl T.z_isinstance ZaR (Zaa (pv 0) (Zaa (Zcs (v:=.ty "bool") rfl T.z_bool ZjE rfl) Zae)))) (ZdS (Zb8 (Zbt (Zal (ZaY (K:=K) rfl) rfl T.z_isinstance ZaR (Zaa (pv 0) (Zaa (Zcs (v:=.ty "int") rfl T.z_int ZiM rfl) Zae)))))))) (Zag (Zat Zdo)) ZaB)
   (Zag (Zat (ZdY (Zbm Zje (pv 1) (pv 0) (Zay _)) (Ze8 (Zbm Zje (pv 0) (pv 2) (Zay _))))))),?_⟩
  walk_at "rd"
  refine⟨_,_,_,_,false,rfl,rfl,.ty (.pl (.int _)),ZkL,iteF ⟨_,_,_,_,true,rfl,rfl,.ty (.pl (.int _)),Zfg,iteF (ite2 (fun h=>?_) (fun h=>?_))⟩⟩
  ·rw[h,Bool.true_and]at q;exact q
  ·rw[Bool.eq_false_iff.mpr h,Bool.false_and]at q;exact q
theorem Zl4:FnScope ["text"] ["text"] (Zai s_KK):=by walk_at "sc"
theorem ZmB (T:TL K mg base a tb):FnOk P w K mg base CX0 1 a.f_KK a.d_KK ["text"] (ZlE K a):=by
 refine T.f_KK.ok Zl4 (fun vs H Q E h=>?_) (fun cdv A outer s H vs Q E hr h=>?_)
 ·obtain⟨_,rfl,_⟩:=h;rfl
 ·have hu64:=hr.units
  have hu1:=ZaM hr
  obtain⟨l,rfl,hl,q⟩:=h
  refine⟨_,(Zag (Zat (Zbf (ZaW (K:=K) rfl) rfl T.z_tuple Zcd (Zaa (Zbv (N:=["spot","text"]) (ix:=[none,some 0]) rfl (Za0 rfl) rfl (Zbe rfl T.z_range (Zaa (Zax ZaT (Zal (Zan (K:=K) rfl) rfl T.z_len ZaH (Zaa (pv 0) Zae)) Zaj) Zae)) (fun _ _ _ _=>(ZaD (i:=0) (show (["spot","text"]:List Str).Nodup from by decide +kernel) rfl (Or.inl rfl) (Or.inr rfl))) (fun _ _ _ _=>(Zca (Zaw (Za1 (K:=K) rfl hu64) (ZdX (K:=K) rfl PySem.F.plainAttrs_str PySem.F.slot_str_find PySem.F.type_str_find Zfe (pv 1) (Zaa (Za3 ZdQ (pv 1) (Za6 (pv 0)) ZbW) Zae)) (pv 0) (Zay _)))) (fun _ _ _ _=>(pv 0))) Zae)))),?_⟩
  have sz:∀k:Nat,k≤1000→k≤sizeLine:=fun k h=>Nat.le_trans h (by rw[sizeLine_eq];decide)
  walk_at "rd"
  refine⟨_,_,rfl,ZbZ (by omega),_,rfl,by omega,by omega,?_⟩
  have e0:((l.length:Int)+1).toNat=l.length+1:=by omega
  rw[e0]
  refine CompRun.range (fun i=>decide (∀j,j<i→¬AtW l (l.drop i) j)) (fun i=>.int ((i:Nat):Int)) (by omega) ?_ ?_ ?_
  ·intro i H1 Q1 hi s1 q1
   have e1:(0+(i:Int))=((i:Nat):Int):=by omega
   walk_at "rd"
   refine⟨rfl,_,rfl,l,rfl,sz _ (by omega),l,_,rfl,rfl,fun r hr=>.inl ⟨rfl,_,rfl,?_⟩⟩
   rw[e1,Zcc]at hr
   rw[if_neg Bool.false_ne_true,e1,ZfZ (by omega) hr]
   exact q1 H1 (Same.refl _)
  ·intro i H1 Q1 hi _ s1 q1
   have e1:(0+(i:Int))=((i:Nat):Int):=by omega
   walk_at "rd"
   rw[e1]
   exact q1 H1 (Same.refl _)
  ·intro p H1 s1 n1 l1
   exact⟨p,_,rfl,.inl ⟨.mk l1,fun p2 n2=>q p2 _ (s1.trans (ZaA n2)) (s1.free n2) Zaf⟩⟩
theorem Zl7:FnScope ["text","spots","letter"] ["text","spots","letter"] (Zai s_KH):=by walk_at "sc"
theorem ZmC (T:TL K mg base a tb):FnOk P w K mg base CX0 1 a.f_KH a.d_KH ["text","spots","letter"] (ZlH K a):=by
 refine T.f_KH.ok Zl7 (fun vs H Q E h=>?_) (fun cdv A outer s H vs Q E hr h=>?_)
 ·obtain⟨_,_,_,_,rfl,_⟩:=h;rfl
 ·have hu64:=hr.units
  have hu1:=ZaM hr
  obtain⟨l,S,c,t,rfl,hl,ht,hS,q⟩:=h
  refine⟨_,(Zag (Zat (Zbf (ZaW (K:=K) rfl) rfl T.z_tuple Zcd (Zaa (Zbv (N:=["spot","letter","text"]) (ix:=[none,some 2,some 0]) rfl (Za0 rfl) rfl (Zi8 (K:=K) rfl (pv 1)) (fun _ _ _ _=>(ZaD (i:=0) (show (["spot","letter","text"]:List Str).Nodup from by decide +kernel) rfl (Or.inl rfl) (Or.inr rfl))) (fun _ _ _ _=>(Zca (Zaw (Za1 (K:=K) rfl hu64) (Za3 ZdQ (pv 2) (Za6 (pv 0)) (Za6 (Zax ZaT (pv 0) Zaj))) (pv 1) (Zay _)))) (fun _ _ _ _=>(Zax ZaT (pv 0) Zaj))) Zae)))),?_⟩
  have sz:∀k:Nat,k≤1000→k≤sizeLine:=fun k h=>Nat.le_trans h (by rw[sizeLine_eq];decide)
  have gd:∀i,i<S.length→(S.map fun (i:Nat)=>V.int i).getD i .non=V.int ((S.getD i 0:Nat):Int):=fun i hi=>by
   rw[List.getD_eq_getElem?_getD,List.getElem?_map,List.getElem?_eq_getElem hi,List.getD_eq_getElem?_getD,List.getElem?_eq_getElem hi]
   rfl
  walk_at "rd"
  refine⟨t,rfl,⟨_,.mk ht⟩,CompRun.tup (xs:=S.map fun (i:Nat)=>V.int i) (fun i=>decide (l[S.getD i 0]?=some c)) (fun i=>.int ((S.getD i 0+1:Nat):Int)) (by rw[List.length_map];omega) (.mk ht) ?_ ?_ ?_⟩
  ·intro i H1 Q1 hi s1 q1
   rw[List.length_map]at hi
   rw[gd i hi]
   walk_at "rd"
   refine⟨_,rfl,_,rfl,l,rfl,sz _ (by omega),.inl ⟨rfl,_,rfl,?_⟩⟩
   rw[if_neg Bool.false_ne_true,cut1]
   exact q1 H1 (Same.refl _)
  ·intro i H1 Q1 hi _ s1 q1
   rw[List.length_map]at hi
   rw[gd i hi]
   walk_at "rd"
   exact q1 H1 (Same.refl _)
  ·intro p H1 s1 n1 l1
   rw[List.length_map,ZcT S (fun s=>decide (l[s]?=some c)) (· + 1)]at l1
   exact⟨p,_,rfl,.inl ⟨.mk l1,fun p2 n2=>q p2 _ (s1.trans (ZaA n2)) (s1.free n2) Zaf⟩⟩
theorem Zmc:FnScope ["_law_script","_law_k"] ["_law_script","_law_k"] (Zai s_K2):=by walk_at "sc"
theorem ZkB (T:TL K mg base a tb):FnOk P w K mg base CX0 1 a.f_K2 a.d_K2 ["_law_script","_law_k"] (ZlS K a):=by
 refine T.f_K2.ok Zmc (fun vs H Q E h=>?_) (fun cdv A outer s H vs Q E hr h=>?_)
 ·obtain⟨_,_,_,rfl,_⟩:=h;rfl
 ·have hu64:=hr.units
  have hu1:=ZaM hr
  obtain⟨b,ns,k,rfl,hS,hk,q⟩:=h
  refine⟨_,(Zab (Zbd (Zaw ZhR (pv 1) (Zal (Zan (K:=K) rfl) rfl T.z_len ZaH (Zaa (pv 0) Zae)) (Zay _)) (Zag (Zat (ZbH (ZaZ (K:=K) rfl) (pv 0) (pv 1) (fun _ _=>rfl)))) ZaB)
   (Zag (Zat Zaj))),?_⟩
  walk_at "rd"
  refine⟨_,_,rfl,.inl ⟨_,hS,rfl⟩,?_⟩
  rw[List.length_map]
  refine ite2 (fun h=>?_) (fun h=>?_)
  ·have h':k<ns.length:=of_decide_eq_true h
   exact⟨b,_,k,_,rfl,rfl,hS,ZjI hk h',q _⟩
  ·exact q _
theorem Zi2:FnScope ["_law_cell","_law_k","_law_number"] ["_law_cell","_law_k"] (Zai s_K4):=by walk_at "sc"
theorem ZbO (T:TL K mg base a tb):FnOk P w K mg base CX0 1 a.f_K4 a.d_K4 ["_law_cell","_law_k"] (ZlQ K a):=by
 refine T.f_K4.ok Zi2 (fun vs H Q E h=>?_) (fun cdv A outer s H vs Q E hr h=>?_)
 ·obtain⟨_,_,rfl,_⟩:=h;rfl
 ·have hu64:=hr.units
  have hu1:=ZaM hr
  obtain⟨c,k,rfl,q⟩:=h
  refine⟨_,(Zab (Zaq (i:=2) Zi2.nd rfl (Or.inl rfl) (Zax ZaP (Zax ZaT (Zax ZaT (Zax Zc2 (Zax ZaP (pv 0) Zaj) Zaj) (Zax Zc2 (pv 1) Zaj)) Zaj) Zaj))
   (Zab (Zaq (i:=2) Zi2.nd rfl (Or.inl rfl) (Zax ZaP (Zax ZaT (Zax ZaT (Zax Zc2 (Zax ZaP (Zax Zc2 (pv 2) (pv 2)) Zaj) Zaj) (Zax Zc2 (pv 1) Zaj)) Zaj) Zaj))
   (Zag (Zat (Zax ZaP (Zax Zc2 (pv 2) (pv 2)) Zaj))))),?_⟩
  walk_at "rd"
  exact⟨by decide,.inr ⟨by decide,by decide⟩,.inr ⟨by decide,by decide⟩,by decide,cm (by decide) (by decide),by decide,.inr ⟨by decide,by decide⟩,.inr ⟨by decide,by decide⟩,by decide,cm (by decide) (by decide),by decide,q _ (Int.emod_nonneg _ (by decide))⟩
theorem ZhA:FnScope ["_law_text_here","_law_found","_law_start","_law_end"] ["_law_text_here"] (Zai s_KS):=by walk_at "sc"
theorem Zmw (T:TL K mg base a tb):FnOk P w K mg base CX0 1 a.f_KS a.d_KS ["_law_text_here"] (Zly K a):=by
 refine T.f_KS.ok ZhA (fun vs H Q E h=>?_) (fun cdv A outer s H vs Q E hr h=>?_)
 ·obtain⟨_,rfl,_⟩:=h;rfl
 ·have hu64:=hr.units
  have hu1:=ZaM hr
  obtain⟨l,rfl,hl,q⟩:=h
  refine⟨_,(Zab (Zaq (i:=1) ZhA.nd rfl (Or.inl rfl) (Zjc (ZhN (Zcr (l:=[]) (by decide +kernel)) Zdo Zi7) rfl rfl (by simp) (by decide)))
   (Zab (ZbE PassesOwn.never rfl (Zbe rfl T.z_range (Zaa (Zal (Zan (K:=K) rfl) rfl T.z_len ZaH (Zaa (pv 0) Zae)) Zae)) (ZaD (i:=2) ZhA.nd rfl (Or.inl rfl))
   (Zag (ZbE PassesOwn.never rfl (Zgy rfl T.z_range (Zaa (Zax ZaT (pv 2) Zaj) (Zaa (Zax ZaT (Zal (Zan (K:=K) rfl) rfl T.z_len ZaH (Zaa (pv 0) Zae)) Zaj) Zae))) (ZaD (i:=3) ZhA.nd rfl (Or.inl rfl))
   (Zag (ZeB hu1 (pv 1) (Za3 ZdQ (pv 0) (Za6 (pv 2)) (Za6 (pv 3))) Zdo rfl)))))
   (Zag (Zat (pv 1))))),?_⟩
  have sz:∀k:Nat,k≤3000→k≤sizeLine:=fun k h=>Nat.le_trans h (by rw[sizeLine_eq];decide)
  walk_at "rd"
  intro p hp
  refine⟨Zaf,[(kTx [],.bl true)],rfl,by show (1:Nat)≤15;decide,_,_,rfl,ZbZ (by omega),_,rfl,by omega,by omega,?_⟩
  have s1:Same H (upd (upd H p (.dK [])) p (.dK (Zbh [] [(kTx [],.bl true)]))):=Zgo hp
  have h1:upd (upd H p (.dK [])) p (.dK (Zbh [] [(kTx [],.bl true)])) p=some (.dK (Zbh [] [(kTx [],.bl true)])):=Zaf
  have k1:SoundD l (Zbh [] [(kTx [],.bl true)]):=by
   show SoundD l (putK [] (kTx []) (.bl true))
   exact SoundD.put ⟨fun _ h=>(by cases h),List.nodup_nil⟩ (Inf.nil l)
  have l1:(Zbh [] [(kTx [],.bl true)]).length≤1:=Zbn _ _
  have z1:(valV (Zbh [] [(kTx [],.bl true)]) (kTx [])).isSome=true:=by
   show (valV (putK [] (kTx []) (.bl true)) (kTx [])).isSome=true
   exact ZbL (.inr rfl)
  generalize Zbh [] [(kTx [],.bl true)]=kv0 at s1 h1 k1 l1 z1
  generalize upd (upd H p (.dK [])) p (.dK kv0)=H1 at s1 h1
  rw[Int.toNat_natCast]
  refine ForRun.range (fun i σ H'=>∃v2 v3 kvs,σ=[some (tx l),some (.ref p),v2,v3]∧Same H H'∧H' p=some (.dK kvs)∧SoundD l kvs∧kvs.length≤1+40*i∧(valV kvs (kTx [])).isSome=true∧∀s e,s<i→s≤e→e≤l.length→(valV kvs (kTx ((l.drop s).take (e-s)))).isSome=true) ⟨_,_,_,rfl,s1,h1,k1,by omega,z1,fun s e h=>by omega⟩ ?_ ?_
  ·rintro i σ H2 hi ⟨v2,v3,kvs,rfl,s2,h2,k2,n2,z2,c2⟩
   walk_at "rd"
   refine⟨_,_,rfl,ZbZ (by omega),_,_,rfl,⟨by omega,by omega,by omega,by omega⟩,?_⟩
   refine ForRun.range (fun j σ H'=>∃v3 kvs,σ=[some (tx l),some (.ref p),some (.int (0+(i:Int))),v3]∧Same H H'∧H' p=some (.dK kvs)∧SoundD l kvs∧kvs.length≤1+40*i+j∧(valV kvs (kTx [])).isSome=true∧(∀s e,s<i→s≤e→e≤l.length→(valV kvs (kTx ((l.drop s).take (e-s)))).isSome=true)∧∀e,i<e→e≤i+j→(valV kvs (kTx ((l.drop i).take (e-i)))).isSome=true) ⟨_,_,rfl,s2,h2,k2,by omega,z2,c2,fun e a b=>by omega⟩ ?_ ?_
   ·rintro j σ H3 hj ⟨v3,kvs,rfl,s3,h3,k3,n3,z3,c3,e3⟩
    have q1:(0+(i:Int))=((i:Nat):Int):=by omega
    have q2:(0+(i:Int)+1+(j:Int))=((i+1+j:Nat):Int):=by omega
    walk_at "rd"
    refine⟨_,rfl,_,rfl,l,rfl,sz _ (by omega),?_⟩
    rw[q2,q1,ZiJ]
    refine⟨p,_,rfl,DPut.k (k:=kTx ((l.drop i).take (i+1+j-i))) h3 (Nat.lt_of_lt_of_le (show _<3000 by omega) (sz 3000 (Nat.le_refl _))),_,_,rfl,same_upd3 s3 hp,Zaf,k3.put (Zjr (by omega) (by omega)),?_,ZbL (.inl z3),fun s e a b d=>ZbL (.inl (c3 s e a b d)),fun e a b=>?_⟩
    ·have:=ZaV kvs (kTx ((l.drop i).take (i+1+j-i))) (.bl true)
     omega
    ·by_cases ee:e=i+1+j
     ·rw[ee];exact ZbL (.inr rfl)
     ·exact ZbL (.inl (e3 e a (by omega)))
   ·rintro σ H3 ⟨v3,kvs,rfl,s3,h3,k3,n3,z3,c3,e3⟩
    refine⟨_,_,_,rfl,s3,h3,k3,by omega,z3,fun s e a b d=>?_⟩
    by_cases hs:s<i
    ·exact c3 s e hs b d
    ·have hsi:s=i:=by omega
     subst hsi
     by_cases he:e=s
     ·rw[he];simpa using z3
     ·exact e3 e (by omega) (by omega)
  ·rintro σ H2 ⟨v2,v3,kvs,rfl,s2,h2,k2,n2,z2,c2⟩
   walk_at "rd"
   exact q p kvs H2 s2 hp h2 ⟨Zh5 k2.1 z2 c2,k2.2,by omega⟩
theorem Zmd:FnScope ["_law_text_here","_law_word","_law_known"] ["_law_text_here","_law_word","_law_known"] (Zai s_K0):=by walk_at "sc"
theorem ZmI (T:TL K mg base a tb):FnOk P w K mg base CX0 1 a.f_K0 a.d_K0 ["_law_text_here","_law_word","_law_known"] (ZlU K a):=by
 refine T.f_K0.ok Zmd (fun vs H Q E h=>?_) (fun cdv A outer s H vs Q E hr h=>?_)
 ·obtain⟨_,_,_,_,rfl,_⟩:=h;rfl
 ·have hu64:=hr.units
  have hu1:=ZaM hr
  obtain⟨l,w_,pq,kvs,rfl,hl,hq,kn,hw,q⟩:=h
  refine⟨_,(Zag (Zat (Zbf (ZaW (K:=K) rfl) rfl T.z_tuple Zcd (Zaa (Zal (ZbT rfl) rfl T.z_sorted ZcN (Zaa (Zjb (Zbv (N:=["_law_longer","_law_word"]) (ix:=[none,some 1]) rfl (Za0 rfl) rfl (Zja (pv 2)) (fun _ _ _ _=>(ZaD (i:=0) (show (["_law_longer","_law_word"]:List Str).Nodup from by decide +kernel) rfl (Or.inl rfl) (Or.inr rfl))) (fun _ _ _ _=>(Zca (Zbt (ZdX (K:=K) rfl PySem.F.plainAttrs_str PySem.F.slot_str_startswith PySem.F.type_str_startswith ZbQ (pv 0) (Zaa (pv 1) Zae))))) (fun _ _ _ _=>(Za3 ZdQ (pv 0) (Za6 (Zal (Zan (K:=K) rfl) rfl T.z_len ZaH (Zaa (pv 1) Zae))) ZbW)))) Zae)) Zae)))),?_⟩
  have sz:∀k:Nat,k≤5000→k≤sizeLine:=fun k h=>Nat.le_trans h (by rw[sizeLine_eq];decide)
  have wl:w_.length≤40:=by obtain⟨i,hi⟩:=hw;have:=hi.1;omega
  have kl:=kn.2.2
  walk_at "rd"
  refine⟨pq,kvs,hq,?_⟩
  walk_at "rd"
  refine⟨pq,kvs,rfl,hq,fun o=>?_⟩
  have hf:upd H pq (.frz o (.dK kvs)) pq=some (.frz o (.dK kvs)):=Zaf
  have at_:∀(i:Nat) (p:Key×V),kvs[i]?=some p→∃x,kV p.1=tx x∧(ZaX kvs).getD i []=x∧x.length≤40:=fun i p hp=>by
   obtain⟨x,e,ix⟩:=kn.1.1 p (List.mem_of_getElem? hp)
   refine⟨x,by rw[e];rfl,?_,by obtain⟨j,hj⟩:=ix;have:=hj.1;omega⟩
   unfold ZaX
   rw[List.getD_eq_getElem?_getD,List.getElem?_map,hp]
   show txK p.1=x
   rw[e,ZeI]
  have len:(ZaX kvs).length=kvs.length:=List.length_map _
  refine CompRun.keys (fun i=>startsB ((ZaX kvs).getD i []) w_) (fun i=>tx (((ZaX kvs).getD i []).drop w_.length)) (by omega) hf ?_ ?_ ?_
  ·intro i p H2 Q2 hp s2 q2
   obtain⟨x,e1,e2,e3⟩:=at_ i p hp
   rw[e1]
   walk_at "rd"
   refine⟨rfl,_,_,rfl,rfl,?_⟩
   rw[←e2]
   exact q2 H2 (Same.refl _)
  ·intro i p H2 Q2 hp _ s2 q2
   obtain⟨x,e1,e2,e3⟩:=at_ i p hp
   rw[e1]
   walk_at "rd"
   refine⟨_,_,rfl,ZbZ (by omega),_,rfl,x,rfl,sz _ (by omega),?_⟩
   rw[Zcc,←e2]
   exact q2 H2 (Same.refl _)
  ·intro p H2 s2 n2 l2
   have e0:((List.range kvs.length).filter fun i=>startsB ((ZaX kvs).getD i []) w_).map (fun i=>tx (((ZaX kvs).getD i []).drop w_.length))=(onwL kvs w_).map tx:=by
    unfold onwL
    show _=(((ZaX kvs).filter fun x=>startsB x w_).map fun x=>x.drop w_.length).map tx
    rw[←Zb2 (fun x=>startsB x w_) [] (ZaX kvs),List.map_map,List.map_map,len]
    rfl
   rw[e0]at l2
   have ol:(onwL kvs w_).length≤3000:=by
    unfold onwL
    rw[List.length_map]
    refine Nat.le_trans (List.length_filter_le ..) ?_
    rw[List.length_map]
    exact kl
   have npq:p≠pq:=fun z=>by rw[z,hf]at n2;cases n2
   have n2':H p=none:=by rw[Zac npq]at n2;exact n2
   have st:Same H (upd H2 pq (.dK kvs)):=Same.thaw (H1:=H) hq s2
   refine⟨o,kvs,s2 _ _ hf,p,onwL kvs w_,rfl,by rw[Zac npq];exact l2,sz _ (by omega),NewL.of fun p3 H3 s3 n3 l3=>⟨p3,_,rfl,.inl ⟨.mk l3,fun p4 n4=>?_⟩⟩⟩
   refine q p4 _ (same_upd3 (st.trans s3) ((st.trans s3).free n4)) ((st.trans s3).free n4) ?_
   rw[Zaf]
   unfold onwK
   rw[List.map_map]
   rfl
theorem ZhC:FnScope ["_law_text_here","_law_word","_law_found","_law_at"] ["_law_text_here","_law_word"] (Zai s_K7):=by walk_at "sc"
theorem ZmE (T:TL K mg base a tb):FnOk P w K mg base CX0 1 a.f_K7 a.d_K7 ["_law_text_here","_law_word"] (ZlN K a):=by
 refine T.f_K7.ok ZhC (fun vs H Q E h=>?_) (fun cdv A outer s H vs Q E hr h=>?_)
 ·obtain⟨_,_,rfl,_⟩:=h;rfl
 ·have hu64:=hr.units
  have hu1:=ZaM hr
  obtain⟨l,w_,rfl,hl,hw,q⟩:=h
  refine⟨_,(Zab (Zaq (i:=2) ZhC.nd rfl (Or.inl rfl) (Zc1 Zae))
   (Zak (Zab (Zaq (i:=3) ZhC.nd rfl (Or.inl rfl) (ZdX (K:=K) rfl PySem.F.plainAttrs_str PySem.F.slot_str_find PySem.F.type_str_find Zfe (pv 0) (Zaa (pv 1) Zae)))
   (Zak (Zab (Ze7 PassesOwn.never (Zaw Zmq (pv 3) Zaj (Zay _))
   (Zab (ZaU (ZfM PySem.F.plainAttrs_list PySem.F.slot_list_append PySem.F.type_list_append Zbg (pv 2) (Zaa (Zax ZaT (pv 3) (Zal (Zan (K:=K) rfl) rfl T.z_len ZaH (Zaa (pv 1) Zae))) Zae)))
   (Zag (Zaq (i:=3) ZhC.nd rfl (Or.inl rfl) (ZdX (K:=K) rfl PySem.F.plainAttrs_str PySem.F.slot_str_find PySem.F.type_str_find ZhW (pv 0) (Zaa (pv 1) (Zaa (Zax ZaT (pv 3) Zaj) Zae)))))))
   (Zak (Zag (Zat (pv 2))))))))),?_⟩
  have sz:∀k:Nat,k≤2000→k≤sizeLine:=fun k h=>Nat.le_trans h (by rw[sizeLine_eq];decide)
  walk_at "rd"
  refine⟨Nat.zero_le _,NewL.of fun p H1 s1 n1 h1=>Zao ?_⟩
  walk_at "rd"
  refine⟨rfl,l,w_,rfl,rfl,fun r hr=>Zao ?_⟩
  have P0:(r=-1∧([]:List Nat)=Za5 l w_ (l.length+1))∨∃i:Nat,r=i∧AtW l w_ i∧[]=Za5 l w_ i:=by
   rcases hr with⟨_,no⟩|⟨i,e,a,mn⟩
   ·exact absurd hw no
   ·exact .inr ⟨i,e,a,(Zbx (n:=0) (Nat.zero_le _) fun j _ hj=>mn j hj).symm⟩
  clear hr
  walk_at "rd"
  refine WhileRun.by (fun σ H'=>∃(r:Int) (es:List Nat),σ=[some (tx l),some (tx w_),some (.ref p),some (.int r)]∧Same H H'∧H' p=some (.lst (es.map fun (i:Nat)=>V.int i))∧((r=-1∧es=Za5 l w_ (l.length+1))∨∃i:Nat,r=i∧AtW l w_ i∧es=Za5 l w_ i)) (fun σ H'=>match H' p with | some (.lst xs)=>2000-xs.length | _=>0) ⟨r,[],rfl,s1,h1,P0⟩ ?_
  clear P0
  rintro σ H2 ⟨r,es,rfl,s2,h2,P⟩
  refine⟨decide (0≤r),fun Q' hq=>?_,fun H3 s3=>?_⟩
  ·walk_at "rd"
   exact hq H2 (Same.refl _)
  ·have h3:=s3 _ _ h2
   refine ite2 (fun h=>?_) (fun h=>?_)
   ·have h0:=of_decide_eq_true h
    obtain⟨i,rfl,ai,ei⟩:=P.resolve_left fun z=>by omega
    have il:i+w_.length≤l.length:=ai.1
    have el:=Zc9 l w_ i
    rw[←ei]at el
    walk_at "rd"
    refine⟨.inl ⟨rfl,_,.mk h3⟩,_,_,rfl,ZbZ (by omega),p,_,_,rfl,rfl,h3,by rw[List.length_map];exact Nat.lt_of_lt_of_le (show _<2000 by omega) (sz 2000 (Nat.le_refl _)),rfl,l,w_,i+1,rfl,rfl,fun r' hr=>⟨⟨r',es++[i+w_.length],rfl,same_upd3 (s2.trans s3) n1,?_,?_⟩,?_⟩⟩
    ·rw[Zaf,List.map_append]
     rfl
    ·rcases hr with⟨e,no⟩|⟨j,e,hj,aj,mn⟩
     ·exact .inl ⟨e,by rw[ei,←ZcH ai];exact(Zbx (by omega) fun j h1 _=>no j h1).symm⟩
     ·exact .inr ⟨j,e,aj,by rw[ei,←ZcH ai];exact(Zbx hj fun x h1 h2=>mn x h1 h2).symm⟩
    ·rw[Zaf,h2]
     show 2000-(es.map (fun (i:Nat)=>V.int i)++[_]).length<2000-(es.map fun (i:Nat)=>V.int i).length
     rw[List.length_append,List.length_singleton,List.length_map]
     omega
   ·have e:es=Zbq l w_:=by
     rcases P with⟨_,e⟩|⟨i,e,_⟩
     ·exact e
     ·exact absurd (show (0:Int)≤r by omega) fun z=>h (decide_eq_true z)
    walk_at "rd?"
    refine Zao ?_
    walk_at "rd"
    refine q p H3 (s2.trans s3) (by first | exact n1 | exact s1.free n1) ?_
    rw[←e]
    exact h3
theorem Zl6:FnScope ["self","room","letter"] ["self","room","letter"] (Zai s_KI):=by walk_at "sc"
theorem Zkw (T:TL K mg base a tb):FnOk P w K mg base CX0 1 a.g_KI a.e_KI ["self","room","letter"] (ZlG K a):=by
 refine T.fm_KI.ok Zl6 (fun vs H Q E h=>?_) (fun cdv A outer s H vs Q E hr h=>?_)
 ·obtain⟨_,_,_,_,_,_,_,rfl,_⟩:=h;rfl
 ·have hu64:=hr.units
  have hu1:=ZaM hr
  obtain⟨p,l,m,sp,i,s_,c,rfl,hp,hi,hc,q⟩:=h
  refine⟨_,(Zag (Zat (ZhQ hu1 (ZbH (ZgX (K:=K) rfl) (ZbH (ZaZ (K:=K) rfl) (ZbX (K:=K) rfl (pv 0) rfl) (pv 1) (fun _ _=>rfl)) Zaj (fun _ _=>rfl)) (pv 2) ⟨rfl,rfl,rfl,rfl⟩))),?_⟩
  obtain⟨dx,qa,ys,h1,h2,h3⟩:=hp
  have e:=h3.len
  have hi':i<sp.length:=(List.getElem?_eq_some_iff.mp hi).1
  have hy:ys[i]?=some ys[i]:=List.getElem?_eq_getElem (by omega)
  obtain⟨t,d,w1,kvs,ey,ht,hd,_,_,hs,hway⟩:=h3.rooms i _ hy
  rw[hi]at hs
  injection hs with hs
  walk_at "rd"
  refine⟨p,_,dx,_,_,rfl,h1,T.cl_KW,T.n_Machine_own_rooms,Zbo,qa,ys,_,ys[i],rfl,rfl,.mk h2,?_,?_⟩
  ·unfold atI ixN
   rw[if_pos (by omega),if_pos (by omega),Option.bind_some,Int.toNat_natCast]
   exact hy
  ·rw[ey]
   exact⟨t,_,_,_,rfl,rfl,.mk ht,rfl,d,rfl,.inl ⟨kvs,hd⟩,_,.inl ⟨kvs,kTx [c],hd,rfl,rfl⟩,q _ (by rw[hs];exact hway c hc)⟩
theorem Zl9:FnScope ["self"] ["self"] (Zai s_KE):=by walk_at "sc"
theorem Zky (T:TL K mg base a tb):FnOk P w K mg base CX0 1 a.g_KE a.e_KE ["self"] (ZlJ K a):=by
 refine T.fm_KE.ok Zl9 (fun vs H Q E h=>?_) (fun cdv A outer s H vs Q E hr h=>?_)
 ·obtain⟨_,_,_,_,rfl,_⟩:=h;rfl
 ·have hu64:=hr.units
  have hu1:=ZaM hr
  obtain⟨p,l,m,sp,rfl,hp,q⟩:=h
  refine⟨_,(Zag (Zat (Zal (Zan (K:=K) rfl) rfl T.z_len ZaH (Zaa (ZbX (K:=K) rfl (pv 0) rfl) Zae)))),?_⟩
  obtain⟨dx,qa,ys,h1,h2,h3⟩:=hp
  have e:=h3.len
  walk_at "rd"
  refine⟨p,_,dx,_,_,rfl,h1,T.cl_KW,T.n_Machine_own_rooms,Zbo,_,_,rfl,.inl ⟨_,.mk h2,rfl⟩,?_⟩
  rw[e]
  exact q
theorem ZlX:FnScope ["thing"] ["thing"] (Zai s_KU):=by walk_at "sc"
theorem Zmv (T:TL K mg base a tb):FnOk P w K mg base CX0 2 a.f_KU a.d_KU ["thing"] (Zlw K a):=by
 refine T.f_KU.ok ZlX (fun vs H Q E h=>?_) (fun cdv A outer s H vs Q E hr h=>?_)
 ·obtain⟨_,rfl,_⟩:=h;rfl
 ·have hu64:=hr.units
  have hu1:=ZaM hr
  obtain⟨l,rfl,hl,q⟩:=h
  refine⟨_,(Zab (Zbd (Zb8 (Zbt (Zal (ZaY (K:=K) rfl) rfl T.z_isinstance ZaR (Zaa (pv 0) (Zaa (Zcs (v:=.ty "str") rfl T.z_str ZiL rfl) Zae))))) (Zag (Zat Zdo)) ZaB)
   (Zab (Zbd (PW.pt (ZeA (Zaw ZhR (Zal (Zan (K:=K) rfl) rfl T.z_len ZaH (Zaa (pv 0) Zae)) Zaj (Zay _)) (ZdS (Zaw ZgF (Zal (Zan (K:=K) rfl) rfl T.z_len ZaH (Zaa (pv 0) Zae)) (Zdn rfl T.c_KN) (Zay _))))) (Zag (Zat Zdo)) ZaB)
   (Zag (Zat (ZdY (Zam (Zkt T) (hr.mono (by decide)) rfl T.m_KT T.f_KT.kp T.b_KT .nil Zau (Zaa (pv 0) (Zaa (ZhO rfl T.c_KF) Zae))) (Ze8 (Zbm (Za1 (K:=K) rfl hu64) (Zbf (Zeh rfl) rfl T.z_list Zhm (Zaa (pv 0) Zae)) (Zal (ZcM rfl) rfl T.z_sorted ZcN (Zaa (Zbf (ZeQ rfl) rfl T.z_set Zlf (Zaa (pv 0) Zae)) Zae)) (Zay _)))))))),?_⟩
  walk_at "rd"
  refine⟨_,_,_,_,true,rfl,rfl,.ty (.pl (.str _)),Zfg,iteF ?_⟩
  refine⟨_,_,rfl,ZbZ hl,?_⟩
  refine ite2 (fun h=>iteT' ?_) (fun h=>?_)
  ·have h1:¬1≤l.length:=by have:=of_decide_eq_true h;omega
   have e:=q H (Same.refl _)
   unfold isk at e
   rw[decide_eq_false h1,Bool.false_and,Bool.false_and,Bool.false_and]at e
   exact e
  ·have h1:1≤l.length:=by have:¬((l.length:Nat):Int)<1:=fun z=>h (decide_eq_true z);omega
   refine⟨_,_,rfl,ZbZ hl,?_⟩
   refine ite2 (fun h'=>?_) (fun h'=>?_)
   ·have h4:¬l.length≤4:=by have:=of_decide_eq_true h';omega
    have e:=q H (Same.refl _)
    unfold isk at e
    rw[decide_eq_false h4,Bool.and_false,Bool.false_and,Bool.false_and]at e
    exact e
   ·have h4:l.length≤4:=by have:¬4<((l.length:Nat):Int):=fun z=>h' (decide_eq_true z);omega
    refine⟨l,LET,by rw[Zjm],hl,fun H2 s2=>⟨_,rfl,?_⟩⟩
    refine ite2 (fun ha=>?_) (fun ha=>?_)
    ·refine⟨l,rfl,hl,NewL.of fun p1 H3 s3 n3 l3=>?_⟩
     refine⟨signs l,by rw[signs_length];exact hl,.inl ⟨l,rfl,rfl⟩,fun p4 n4=>?_⟩
     refine⟨p4,ddl (signs l),rfl,Zaf,Nat.lt_of_le_of_lt (Zjz l) (by omega),NewL.of fun p5 H5 s5 n5 l5=>?_⟩
     refine ZiF (.mk ((ZaA n4).trans s5 _ _ l3)) (.mk l5) ?_
     have e:=q H5 (s2.trans (s3.trans ((ZaA n4).trans s5)))
     unfold isk at e
     rw[decide_eq_true h1,decide_eq_true h4,ha,Bool.true_and,Bool.true_and,Bool.true_and]at e
     exact e
    ·have e:=q H2 s2
     unfold isk at e
     rw[Bool.eq_false_iff.mpr ha,Bool.and_false,Bool.false_and]at e
     exact e
theorem ZlW:FnScope ["thing","kinds","most"] ["thing","kinds","most"] (Zai s_KX):=by walk_at "sc"
theorem Zks (T:TL K mg base a tb):FnOk P w K mg base CX0 2 a.f_KX a.d_KX ["thing","kinds","most"] (Zlu K a):=by
 refine T.f_KX.ok ZlW (fun vs H Q E h=>?_) (fun cdv A outer s H vs Q E hr h=>?_)
 ·obtain⟨_,_,_,rfl,_⟩:=h;rfl
 ·have hu64:=hr.units
  have hu1:=ZaM hr
  obtain⟨l,m,most,rfl,hl,q⟩:=h
  refine⟨_,(Zag (Zat (ZdY (Zal (ZaY (K:=K) rfl) rfl T.z_isinstance ZaR (Zaa (pv 0) (Zaa (Zcs (v:=.ty "str") rfl T.z_str ZiL rfl) Zae))) (ZdY (Zbm Zje (Zal (Zan (K:=K) rfl) rfl T.z_len ZaH (Zaa (pv 0) Zae)) (pv 2) (Zay _)) (Ze8 (Zam (Zkt T) (hr.mono (by decide)) rfl T.m_KT T.f_KT.kp T.b_KT .nil Zau (Zaa (pv 0) (Zaa (pv 1) Zae)))))))),?_⟩
  walk_at "rd"
  refine⟨_,_,_,_,true,rfl,rfl,.ty (.pl (.str _)),Zfg,iteT ?_⟩
  refine⟨_,_,rfl,ZbZ hl,?_⟩
  refine ite2 (fun h=>?_) (fun h=>?_)
  ·refine⟨l,m,rfl,hl,fun H2 s2=>?_⟩
   have e:=q H2 s2
   unfold isw at e
   rw[h,Bool.true_and]at e
   exact e
  ·have e:=q H (Same.refl _)
   unfold isw at e
   rw[Bool.eq_false_iff.mpr h,Bool.false_and]at e
   exact e
theorem Zdj:FnScope ["text","kinds","spots","words","numbers","rooms","room","ways","letter","behind"] ["text","kinds"] (Zai s_KV):=by walk_at "sc"
theorem Zmu (T:TL K mg base a tb):FnOk P w K mg base CX0 2 a.f_KV a.d_KV ["text","kinds"] (Zlv K a):=by
 refine T.f_KV.ok Zdj (fun vs H Q E h=>?_) (fun cdv A outer s H vs Q E hr h=>?_)
 ·obtain⟨_,_,rfl,_⟩:=h;rfl
 ·have hu64:=hr.units
  have hu1:=ZaM hr
  obtain⟨l,m,rfl,hl,hm,hlm,hrise,q⟩:=h
  refine⟨_,(Zab (Zaq (i:=2) Zdj.nd rfl (Or.inl rfl) (Zc1 (Zaa (Zam (ZmB T) (hr.mono (by decide)) rfl T.m_KK T.f_KK.kp T.b_KK .nil Zau (Zaa (pv 0) Zae)) Zae)))
   (Zab (Zaq (i:=3) Zdj.nd rfl (Or.inl rfl) (Zc1 (Zaa (Zcr (l:=[]) (by decide +kernel)) Zae)))
   (Zab (Zaq (i:=4) Zdj.nd rfl (Or.inl rfl) (ZgB hu1 (ZbH (ZaZ (K:=K) rfl) (pv 2) Zaj (fun _ _=>rfl)) Zaj))
   (Zab (Zaq (i:=5) Zdj.nd rfl (Or.inl rfl) (Zc1 Zae))
   (Zak (Zab (Ze7 PassesOwn.never (Zaw ZhR (Zal (Zan (K:=K) rfl) rfl T.z_len ZaH (Zaa (pv 5) Zae)) (Zal (Zan (K:=K) rfl) rfl T.z_len ZaH (Zaa (pv 2) Zae)) (Zay _))
   (Zab (Zaq (i:=6) Zdj.nd rfl (Or.inl rfl) (Zal (Zan (K:=K) rfl) rfl T.z_len ZaH (Zaa (pv 5) Zae)))
   (Zab (Zaq (i:=7) Zdj.nd rfl (Or.inl rfl) ZhP)
   (Zab (ZbE PassesOwn.never rfl (Zcq (pv 1)) (ZaD (i:=8) Zdj.nd rfl (Or.inl rfl))
   (Zab (Zaq (i:=9) Zdj.nd rfl (Or.inl rfl) (Zam (ZmC T) (hr.mono (by decide)) rfl T.m_KH T.f_KH.kp T.b_KH .nil Zau (Zaa (pv 0) (Zaa (ZbH (ZaZ (K:=K) rfl) (pv 2) (pv 6) (fun _ _=>rfl)) (Zaa (pv 8) Zae)))))
   (Zak (Zab (Zbd (PW.pt (Ze6 (Zaw ZgF (Zal (Zan (K:=K) rfl) rfl T.z_len ZaH (Zaa (pv 9) Zae)) Zaj (Zay _)) (Zdl (Zkg (ZgC hu1 (pv 9) (pv 4)))))) (Zab (ZeB hu1 (pv 4) (pv 9) (Zal (Zan (K:=K) rfl) rfl T.z_len ZaH (Zaa (pv 2) Zae)) rfl)
   (Zab (ZaU (ZfM PySem.F.plainAttrs_list PySem.F.slot_list_append PySem.F.type_list_append Zbg (pv 2) (Zaa (pv 9) Zae)))
   (Zag (ZaU (ZfM PySem.F.plainAttrs_list PySem.F.slot_list_append PySem.F.type_list_append Zbg (pv 3) (Zaa (Zax Zbw (ZbH (ZaZ (K:=K) rfl) (pv 3) (pv 6) (fun _ _=>rfl)) (pv 8)) Zae)))))) ZaB)
   (Zak (Zag (Zbd (Zaw ZgF (Zal (Zan (K:=K) rfl) rfl T.z_len ZaH (Zaa (pv 9) Zae)) Zaj (Zay _)) (Zag (ZeB hu1 (pv 7) (pv 8) (Zjd hu1 (pv 4) (pv 9) (fun _ _=>rfl)) rfl)) ZaB)))))))
   (Zak (Zag (ZaU (ZfM PySem.F.plainAttrs_list PySem.F.slot_list_append PySem.F.type_list_append Zbg (pv 5) (Zaa (Zkj (Zaa (ZbH (ZaZ (K:=K) rfl) (pv 3) (pv 6) (fun _ _=>rfl)) (Zaa (pv 7) Zae))) Zae)))))))))
   (Zag (Zat (pv 5))))))))),?_⟩
  have sz:∀k:Nat,k≤2000→k≤sizeLine:=fun k h=>Nat.le_trans h (by rw[sizeLine_eq];decide)
  walk_at "rd"
  refine⟨l,rfl,hl,fun t0 H1 s1 n1 h1=>⟨sz _ (by decide),NewL.of fun ps H2 s2 n2 h2=>⟨sz _ (by decide),NewL.of fun pw H3 s3 n3 h3=>?_⟩⟩⟩
  intro pn nn
  have npw:ps≠pw:=Zah h2 n3
  have npn:ps≠pn:=Zah (s3 _ _ h2) nn
  have nwn:pw≠pn:=Zah h3 nn
  have s4:Same H3 (upd H3 pn (.dT [])):=ZaA nn
  have h4:upd H3 pn (.dT []) pn=some (.dT []):=Zaf
  generalize upd H3 pn (.dT [])=H4 at s4 h4
  have fH:H ps=none:=s1.free n2
  have fW:H pw=none:=(s1.trans s2).free n3
  have fN:H pn=none:=(s1.trans (s2.trans s3)).free nn
  have k0:H4 t0=some (.tup ((keyT (ZaC l)).map kV)):=by rw[ZeG];exact(s2.trans (s3.trans s4)) _ _ h1
  refine⟨ps,_,_,.ref t0,rfl,rfl,.mk ((s3.trans s4) _ _ h2),rfl,t0,keyT (ZaC l),rfl,k0,h4,Nat.zero_le _,?_⟩
  have S5:Same H (upd H4 pn (.dT [(keyT (ZaC l),.int 0)])):=same_upd3 (s1.trans (s2.trans (s3.trans s4))) fN
  have R5:RInv (upd H4 pn (.dT [(keyT (ZaC l),.int 0)])) ps pw pn l [ZaC l] [[]] [t0]:=by
   refine⟨by rw[Zac npn];exact(s3.trans s4) _ _ h2,by rw[Zac nwn];exact s4 _ _ h3,Zaf,rfl,?_,rfl,?_,by simp,rfl⟩
   ·intro i t s h5 h6
    have hi:i=0:=by have:=(List.getElem?_eq_some_iff.mp h6).1;simpa using this
    subst hi
    simp at h5 h6
    rw[←h5,←h6,Zac (fun z=>by rw[z,h4]at k0;cases k0)]
    exact(s2.trans (s3.trans s4)) _ _ h1
   ·intro i w s h5 h6
    have hi:i=0:=by have:=(List.getElem?_eq_some_iff.mp h6).1;simpa using this
    subst hi
    simp at h5 h6
    rw[h5,←h6]
    exact⟨(ZdL l).symm,Inf.nil l⟩
  generalize upd H4 pn (.dT [(keyT (ZaC l),.int 0)])=H5 at S5 R5
  refine NewL.of fun pr H6 s6 n6 h6=>Zao ?_
  have fR:H pr=none:=S5.free n6
  have nsr:ps≠pr:=Zah R5.hs n6
  have nwr:pw≠pr:=Zah R5.hw n6
  have nnr:pn≠pr:=Zah R5.hn n6
  walk_at "rd"
  refine WhileRun.by (fun σ H'=>∃(sp ws:List (List Nat)) (ts:List Addr) (ys:List V) (v6 v7 v8 v9:Option V),σ=[some (tx l),some (tx m),some (.ref ps),some (.ref pw),some (.ref pn),some (.ref pr),v6,v7,v8,v9]∧Same H H'∧RInv H' ps pw pn l sp ws ts∧H' pr=some (.lst ys)∧ys.length≤sp.length∧(∀i y,ys[i]?=some y→RoomP H' (fun _=>True) l m sp i y)∧Grow l m ws ys.length 0∧∀i y,ys[i]?=some y→WordAt H' ws i y) (fun σ H'=>match H' pr with | some (.lst xs)=>2000-xs.length | _=>0) ⟨[ZaC l],[[]],[t0],[],_,_,_,_,rfl,S5.trans s6,R5.same s6,h6,by simp,fun i y e=>by simp at e,Grow.start l m,fun i y e=>by simp at e⟩ ?_
  rintro σ H7 ⟨sp,ws,ts,ys,v6,v7,v8,v9,rfl,S7,R7,r7,le7,rm7,g7,wa7⟩
  refine⟨decide (ys.length<sp.length),fun Q' hq=>?_,fun H8 s8=>?_⟩
  ·walk_at "rd"
   refine⟨_,_,rfl,.inl ⟨_,.mk r7,rfl⟩,_,_,rfl,.inl ⟨_,.mk R7.hs,rfl⟩,?_⟩
   have e:decide (((ys.length:Nat):Int)<((ts.map V.ref).length:Nat))=decide (ys.length<sp.length):=by
    rw[List.length_map,R7.tl,Bool.eq_iff_iff,decide_eq_true_iff,decide_eq_true_iff]
    omega
   rw[e]
   exact hq H7 (Same.refl _)
  ·have R8:=R7.same s8
   have r8:=s8 _ _ r7
   have S8:=S7.trans s8
   have rm8:∀i y,ys[i]?=some y→RoomP H8 (fun _=>True) l m sp i y:=fun i y e=>(rm7 i y e).same s8
   have wa8:∀i y,ys[i]?=some y→WordAt H8 ws i y:=fun i y e=>(wa7 i y e).same s8
   refine ite2 (fun h=>?_) (fun h=>?_)
   ·have hlt:=of_decide_eq_true h
    have hle:=R8.le hl
    obtain⟨sr,hsr⟩:∃sr,sp[ys.length]?=some sr:=⟨_,List.getElem?_eq_getElem hlt⟩
    obtain⟨wr,hwr⟩:∃wr,ws[ys.length]?=some wr:=⟨_,List.getElem?_eq_getElem (by rw[R8.wl];exact hlt)⟩
    obtain⟨esr,hIr⟩:=R8.wt _ _ _ hwr hsr
    have lsr:sr.length≤41:=by rw[esr];have:=ZdN l wr;omega
    have lwr:wr.length≤40:=by have:=hIr.len;omega
    walk_at "rd"
    refine⟨_,_,rfl,.inl ⟨_,.mk r8,rfl⟩,?_⟩
    intro pd nd8
    have fD:H pd=none:=S8.free nd8
    have dsp:ps≠pd:=Zah R8.hs nd8
    have dwp:pw≠pd:=Zah R8.hw nd8
    have dnp:pn≠pd:=Zah R8.hn nd8
    have drp:pr≠pd:=Zah r8 nd8
    have s9:Same H8 (upd H8 pd (.dK [])):=ZaA nd8
    have d9:upd H8 pd (.dK []) pd=some (.dK []):=Zaf
    have rm9:∀i y,ys[i]?=some y→RoomP (upd H8 pd (.dK [])) (fun d=>d≠pd) l m sp i y:=fun i y e=>((rm8 i y e).mono fun d kvs hd _=>Zah hd nd8).same s9
    have wa9:∀i y,ys[i]?=some y→WordAt (upd H8 pd (.dK [])) ws i y:=fun i y e=>(wa8 i y e).same s9
    generalize upd H8 pd (.dK [])=H9 at s9 d9 rm9 wa9
    refine⟨m,rfl,ForRun.text (fun k σ H'=>∃(sp ws:List (List Nat)) (ts:List Addr) (v8 v9:Option V) (kvs:List (Key×V)),σ=[some (tx l),some (tx m),some (.ref ps),some (.ref pw),some (.ref pn),some (.ref pr),some (.int ((ys.length:Nat):Int)),some (.ref pd),v8,v9]∧Same H H'∧RInv H' ps pw pn l sp ws ts∧H' pr=some (.lst ys)∧(∀i y,ys[i]?=some y→RoomP H' (fun d=>d≠pd) l m sp i y)∧H' pd=some (.dK kvs)∧kvs.length≤k∧sp[ys.length]?=some sr∧ws[ys.length]?=some wr∧(∀c∈m.take k,Way l sp sr c (valV kvs (kTx [c])))∧(∀c,c∉m.take k→valV kvs (kTx [c])=none)∧Grow l m ws ys.length k∧∀i y,ys[i]?=some y→WordAt H' ws i y) ⟨sp,ws,ts,_,_,[],rfl,S8.trans s9,R8.same s9,s9 _ _ r8,rm9,d9,Nat.le_refl _,hsr,hwr,fun c h=>by simp at h,fun c _=>rfl,g7,wa9⟩ ?_ ?_⟩
    ·clear rm9 rm8 rm7 R8 R7 hsr hwr le7 hlt h hle wa9 wa8 wa7 g7
     rintro k c σ H10 hc ⟨sp,ws,ts,v8,v9,kvs,rfl,S10,R10,r10,rm10,d10,kl,hsr,hwr,wy,wn,g10,wa10⟩
     have hk:k<m.length:=(List.getElem?_eq_some_iff.mp hc).1
     have hlt:ys.length<sp.length:=(List.getElem?_eq_some_iff.mp hsr).1
     have hle:=R10.le hl
     obtain⟨tr,htr⟩:∃tr,ts[ys.length]?=some tr:=⟨_,List.getElem?_eq_getElem (by rw[R10.tl];exact hlt)⟩
     have et:m.take (k+1)=m.take k++[c]:=ZdI hc
     have atr:atI (ts.map V.ref) ((ys.length:Nat):Int)=some (.ref tr):=by
      unfold atI ixN
      rw[if_pos (by omega),if_pos (by rw[List.length_map,R10.tl];omega),Option.bind_some,Int.toNat_natCast,List.getElem?_map,htr]
      rfl
     have atw:∀ {ws:List (List Nat)},ws[ys.length]?=some wr→atI (ws.map tx) ((ys.length:Nat):Int)=some (tx wr):=fun {ws} h=>by
      have hw:=(List.getElem?_eq_some_iff.mp h).1
      unfold atI ixN
      rw[if_pos (by omega),if_pos (by rw[List.length_map];omega),Option.bind_some,Int.toNat_natCast,List.getElem?_map,h]
      rfl
     walk_at "rd"
     refine⟨ps,_,_,.ref tr,rfl,rfl,.mk R10.hs,atr,l,sr,c,tr,rfl,hl,R10.tt _ _ _ htr hsr,lsr,fun tb H11 s11 n11 h11=>Zao ?_⟩
     have R11:=R10.same s11
     have S11:=S10.trans s11
     have bsn:Zav l sr c=Zad l (wr++[c]):=by rw[esr,ZaL]
     have blen:(Zav l sr c).length≤41:=by rw[bsn];have:=ZdN l (wr++[c]);omega
     have hbk:H11 tb=some (.tup ((keyT (Zav l sr c)).map kV)):=by rw[ZeG];exact h11
     walk_at "rd"
     refine⟨_,_,rfl,.inr ⟨_,.mk h11,rfl⟩,?_⟩
     rw[List.length_map]
     have r11:=s11 _ _ r10
     have d11:=s11 _ _ d10
     have wa11:∀i y,ys[i]?=some y→WordAt H11 ws i y:=fun i y e=>(wa10 i y e).same s11
     have rm11:∀i y,ys[i]?=some y→RoomP H11 (fun d=>d≠pd) l m sp i y:=fun i y e=>(rm10 i y e).same s11
     apply Zfz (C:=fun H12=>∃(sp' ws':List (List Nat)) (ts':List Addr),Same H H12∧RInv H12 ps pw pn l sp' ws' ts'∧H12 pr=some (.lst ys)∧(∀i y,ys[i]?=some y→RoomP H12 (fun d=>d≠pd) l m sp' i y)∧H12 pd=some (.dK kvs)∧sp'[ys.length]?=some sr∧ws'[ys.length]?=some wr∧(∀c∈m.take k,Way l sp' sr c (valV kvs (kTx [c])))∧H12 tb=some (.tup ((keyT (Zav l sr c)).map kV))∧(Zav l sr c=[]∨Zav l sr c∈sp')∧Grow l m ws' ys.length (k+1)∧∀i y,ys[i]?=some y→WordAt H12 ws' i y)
     ·intro tail
      refine ite2 (fun h=>?A) (fun h=>?C)
      case C=>
       have e0:Zav l sr c=[]:=List.eq_nil_of_length_eq_zero (by have:=of_decide_eq_false (Bool.eq_false_iff.mpr h);omega)
       obtain⟨H12,e12⟩:∃H12,H12=H11:=⟨_,rfl⟩
       rw[←e12]
       refine iteF ?_
       exact tail H12 (by rw[e12];exact⟨sp,ws,ts,S11,R11,r11,rm11,d11,hsr,hwr,wy,hbk,.inl e0,g10.old hrise hc hwr (fun hI=>absurd e0 (by rw[bsn];exact Za2.mpr hI)),wa11⟩)
      case A=>
       have hne:Zav l sr c≠[]:=fun e=>by rw[e]at h;simp at h
       refine⟨pn,_,rfl,.inr ⟨numK sp,keyT (Zav l sr c),tb,.inl R11.hn,rfl,hbk,rfl⟩,?_⟩
       by_cases hin:Zav l sr c∈sp
       ·obtain⟨j,hj⟩:=List.mem_iff_getElem?.mp hin
        rw[ZgL R11.nd hj]
        exact iteF (tail H11 ⟨sp,ws,ts,S11,R11,r11,rm11,d11,hsr,hwr,wy,hbk,.inr hin,g10.old hrise hc hwr (fun _=>by rw[←bsn];exact R11.word hj),wa11⟩)
       ·rw[ZdZ hin]
        refine iteT ⟨_,_,rfl,.inl ⟨_,.mk R11.hs,rfl⟩,?_⟩
        rw[List.length_map,R11.tl]
        have lt2:∀n,n≤1681→n<sizeLine:=fun n h=>Nat.lt_of_lt_of_le (show n<2000 by omega) (sz 2000 (Nat.le_refl _))
        have hps:upd H11 pn (.dT (putK (numK sp) (keyT (Zav l sr c)) (.int (sp.length:Int)))) ps=some (.lst (ts.map V.ref)):=by rw[Zac npn];exact R11.hs
        refine⟨pn,_,rfl,DPut.t R11.hn hbk (by rw[Zfb];exact lt2 _ hle),.inl ⟨rfl,_,.mk hps⟩,ps,_,_,rfl,rfl,hps,by rw[List.length_map,R11.tl];exact lt2 _ hle,?_⟩
        have hpw:upd (upd H11 pn (.dT (putK (numK sp) (keyT (Zav l sr c)) (.int (sp.length:Int))))) ps (.lst (ts.map V.ref++[.ref tb])) pw=some (.lst (ws.map tx)):=by rw[Zac (Ne.symm npw),Zac nwn];exact R11.hw
        refine⟨.inl ⟨rfl,_,.mk hpw⟩,pw,_,_,_,rfl,rfl,.mk hpw,atw hwr,?_⟩
        walk_at "rd?"
        refine⟨sz _ (by omega),pw,_,_,rfl,rfl,hpw,by rw[List.length_map,R11.wl];exact lt2 _ hle,?_⟩
        have P:=R11.push npw npn nwn h11 hin bsn (Za2.mp (by rw[←bsn];exact hne))
        refine tail _ ⟨_,_,_,same_upd3 (same_upd3 (same_upd3 S11 fN) fH) fW,P,?_,?_,?_,?_,?_,fun c' h'=>(wy c' h').more,?_,.inr (by simp),g10.new hrise hc hwr,fun i y e=>((((wa11 i y e).other R11.hn (fun xs z=>by cases z)).other hps (fun xs z=>by cases z)).other hpw (fun xs z=>by cases z)).more⟩
        ·rw[Zac (Ne.symm nwr),Zac (Ne.symm nsr),Zac (Ne.symm nnr)];exact r11
        ·intro i y e
         have a1:=(rm11 i y e).other (o:=.dT (putK (numK sp) (keyT (Zav l sr c)) (.int (sp.length:Int)))) R11.hn (fun xs z=>by cases z) (fun d _=>.inr fun kvs z=>by cases z)
         have a2:=a1.other (o:=.lst (ts.map V.ref++[.ref tb])) hps (fun xs z=>by cases z) (fun d _=>.inr fun kvs z=>by cases z)
         exact(a2.other hpw (fun xs z=>by cases z) (fun d _=>.inr fun kvs z=>by cases z)).more
        ·rw[Zac (Ne.symm dwp),Zac (Ne.symm dsp),Zac (Ne.symm dnp)];exact d11
        ·rw[List.getElem?_append_left hlt];exact hsr
        ·rw[List.getElem?_append_left (by rw[R11.wl];exact hlt)];exact hwr
        ·rw[Zac (fun z=>by rw[z,R11.hw]at hbk;cases hbk),Zac (fun z=>by rw[z,R11.hs]at hbk;cases hbk),Zac (fun z=>by rw[z,R11.hn]at hbk;cases hbk)]
         exact hbk
     ·rintro H12 ⟨sp',ws',ts',S12,R12,r12,rm12,d12,hsr',hwr',wy',hb12,hin,g12,wa12⟩
      refine Zao ?_
      walk_at "rd"
      refine⟨_,_,rfl,.inr ⟨_,.mk hb12,rfl⟩,?_⟩
      rw[ZeG,List.length_map]
      have tk:∀c',c'∈m.take (k+1)→c'∈m.take k∨c'=c:=fun c' h'=>by
       rw[et]at h'
       rcases List.mem_append.mp h' with z | z
       ·exact .inl z
       ·exact .inr (List.mem_singleton.mp z)
      have tn:∀c',c'∉m.take (k+1)→c'∉m.take k∧c'≠c:=fun c' h'=>by
       rw[et]at h'
       exact⟨fun z=>h' (List.mem_append_left _ z),fun z=>h' (by rw[z];simp)⟩
      refine ite2 (fun h=>?_) (fun h=>?_)
      ·have hne:Zav l sr c≠[]:=fun e=>by rw[e]at h;simp at h
       obtain⟨j,hj⟩:=List.mem_iff_getElem?.mp (hin.resolve_left hne)
       refine⟨pn,.int (j:Int),rfl,.inr ⟨numK sp',keyT (Zav l sr c),tb,.inl R12.hn,rfl,hb12,(ZgL R12.nd hj).symm⟩,pd,_,rfl,DPut.k (k:=kTx [c]) d12 (Nat.lt_of_lt_of_le (show _<2000 by omega) (sz 2000 (Nat.le_refl _))),?_⟩
       refine⟨sp',ws',ts',_,_,putK kvs (kTx [c]) (.int (j:Int)),rfl,same_upd3 S12 fD,R12.other d12 (fun xs z=>by cases z) dsp dwp dnp,by rw[Zac drp];exact r12,fun i y e=>(rm12 i y e).other d12 (fun xs z=>by cases z) (fun d hd=>.inl hd),Zaf,by have:=ZaV kvs (kTx [c]) (.int (j:Int));omega,hsr',hwr',fun c' h'=>?_,fun c' h'=>?_,g12,fun i y e=>(wa12 i y e).other d12 (fun xs z=>by cases z)⟩
       ·rw[Zdf]
        by_cases ec:c'=c
        ·rw[if_pos (by rw[ec]),ec]
         exact .inr ⟨hne,j,hj,rfl⟩
        ·rw[if_neg (fun z=>ec (kTx1.mp z))]
         exact wy' c' ((tk c' h').resolve_right ec)
       ·have hh:=tn c' h'
        rw[Zdf,if_neg (fun z=>hh.2 (kTx1.mp z))]
        exact wn c' hh.1
      ·have e0:Zav l sr c=[]:=List.eq_nil_of_length_eq_zero (by have:=of_decide_eq_false (Bool.eq_false_iff.mpr h);omega)
       refine⟨sp',ws',ts',_,_,kvs,rfl,S12,R12,r12,rm12,d12,by omega,hsr',hwr',fun c' h'=>?_,fun c' h'=>wn c' (tn c' h').1,g12,wa12⟩
       by_cases hc':c'∈m.take k
       ·exact wy' c' hc'
       ·have ec:=(tk c' h').resolve_left hc'
        exact .inl ⟨by rw[ec];exact e0,wn c' hc'⟩
    ·clear rm9 rm8 rm7 R8 R7 hsr hwr le7 hlt h hle wa9 wa8 wa7 g7
     rintro σ H10 ⟨sp,ws,ts,v8,v9,kvs,rfl,S10,R10,r10,rm10,d10,kl,hsr,hwr,wy,wn,g10,wa10⟩
     have hlt:ys.length<sp.length:=(List.getElem?_eq_some_iff.mp hsr).1
     have hle:=R10.le hl
     rw[List.take_length]at wy
     have atw:atI (ws.map tx) ((ys.length:Nat):Int)=some (tx wr):=by
      have hw:=(List.getElem?_eq_some_iff.mp hwr).1
      unfold atI ixN
      rw[if_pos (by omega),if_pos (by rw[List.length_map];omega),Option.bind_some,Int.toNat_natCast,List.getElem?_map,hwr]
      rfl
     walk_at "rd?"
     refine Zao ?_
     walk_at "rd"
     refine⟨.inl ⟨rfl,_,.mk r10⟩,pw,_,_,_,rfl,rfl,.mk R10.hw,atw,sz _ (by decide),NewT.of fun pt H11 s11 n11 h11=>⟨pr,_,_,rfl,rfl,s11 _ _ r10,Nat.lt_of_lt_of_le (show _<2000 by omega) (sz 2000 (Nat.le_refl _)),?_⟩⟩
     have r11:=s11 _ _ r10
     refine⟨⟨sp,ws,ts,ys++[.ref pt],_,_,_,_,rfl,same_upd3 (S10.trans s11) fR,(R10.same s11).other r11 (fun xs z=>by cases z) nsr nwr nnr,Zaf,by rw[List.length_append,List.length_singleton];omega,fun i y e=>?_,by rw[List.length_append,List.length_singleton];exact g10.next,fun i y e=>?_⟩,?_⟩
     ·by_cases ci:i<ys.length
      ·rw[List.getElem?_append_left ci]at e
       exact(((rm10 i y e).same s11).mono fun _ _ _ _=>trivial).other r11 (fun xs z=>by cases z) (fun d _=>.inr fun kvs z=>by cases z)
      ·have hi:i=ys.length:=by have:=(List.getElem?_eq_some_iff.mp e).1;rw[List.length_append,List.length_singleton]at this;omega
       subst hi
       rw[List.getElem?_append_right (by omega)]at e
       simp at e
       refine⟨pt,pd,wr,kvs,e.symm,?_,?_,trivial,hIr,hIr.len,by rw[←esr];exact hsr,fun c hc=>by rw[←esr];exact wy c hc⟩
       ·rw[Zac (fun z=>by rw[z,r11]at h11;cases h11)];exact h11
       ·rw[Zac (Ne.symm drp)];exact s11 _ _ d10
     ·by_cases ci:i<ys.length
      ·rw[List.getElem?_append_left ci]at e
       exact((wa10 i y e).same s11).other r11 (fun xs z=>by cases z)
      ·have hi:i=ys.length:=by have:=(List.getElem?_eq_some_iff.mp e).1;rw[List.length_append,List.length_singleton]at this;omega
       subst hi
       rw[List.getElem?_append_right (by omega)]at e
       simp at e
       refine⟨pt,pd,wr,e.symm,?_,hwr⟩
       rw[Zac (fun z=>by rw[z,r11]at h11;cases h11)];exact h11
     ·show (match upd H11 pr (HO.lst (ys++[V.ref pt])) pr with | some (.lst xs)=>2000-xs.length | _=>0)<_
      rw[Zaf,r7]
      show 2000-(ys++[V.ref pt]).length<2000-ys.length
      rw[List.length_append,List.length_singleton]
      omega
   ·have e:ys.length=sp.length:=by have:=of_decide_eq_false (Bool.eq_false_iff.mpr h);omega
    walk_at "rd"
    refine q pr sp ws ys H8 S8 fR r8 ⟨R8.f0,e,R8.nd,fun i y hy=>?_⟩ wa8 (Grow.numb (by rw[R8.wl,←e];exact g7) R8.inf R8.one) R8.wl R8.spot
    obtain⟨t,d,w,kvs,a1,a2,a3,_,a4⟩:=rm8 i y hy
    exact⟨t,d,w,kvs,a1,a2,.inl a3,a4⟩
theorem ZfK:FnScope ["_law_cell","_law_at","_law_found","_law_k"] ["_law_cell"] (Zai s_KZ):=by walk_at "sc"
theorem Zms (T:TL K mg base a tb):FnOk P w K mg base CX0 2 a.f_KZ a.d_KZ ["_law_cell"] (Zls K a):=by
 refine T.f_KZ.ok ZfK (fun vs H Q E h=>?_) (fun cdv A outer s H vs Q E hr h=>?_)
 ·obtain⟨_,rfl,_⟩:=h;rfl
 ·have hu64:=hr.units
  have hu1:=ZaM hr
  obtain⟨c,rfl,q⟩:=h
  refine⟨_,(Zab (Zaq (i:=1) ZfK.nd rfl (Or.inl rfl) (Zax ZaP (Zam (ZbO T) (hr.mono (by decide)) rfl T.m_K4 T.f_K4.kp T.b_K4 .nil Zau (Zaa (pv 0) (Zaa Zaj Zae))) Zaj))
   (Zab (Zaq (i:=2) ZfK.nd rfl (Or.inl rfl) (ZbH Zh6 (Zcr (l:=[97,98,99,100,101,102,103,104]) (by decide +kernel)) (pv 1) (fun _ _=>rfl)))
   (Zab (ZbE PassesOwn.never rfl (Zbe rfl T.z_range (Zaa (Zax ZaP (Zam (ZbO T) (hr.mono (by decide)) rfl T.m_K4 T.f_K4.kp T.b_K4 .nil Zau (Zaa (pv 0) (Zaa Zaj Zae))) Zaj) Zae)) (ZaD (i:=3) ZfK.nd rfl (Or.inl rfl))
   (Zab (Zaq (i:=1) ZfK.nd rfl (Or.inl rfl) (Zax ZaT (Zax ZaT (pv 1) Zaj) (Zax ZaP (Zam (ZbO T) (hr.mono (by decide)) rfl T.m_K4 T.f_K4.kp T.b_K4 .nil Zau (Zaa (pv 0) (Zaa (Zax ZaT Zaj (pv 3)) Zae))) Zaj)))
   (Zag (Zaq (i:=2) ZfK.nd rfl (Or.inl rfl) (Zax Zbw (pv 2) (ZbH Zh6 (Zcr (l:=[97,98,99,100,101,102,103,104,105,106,107,108,109,110,111,112,113,114,115,116,117,118,119,120,121,122]) (by decide +kernel)) (pv 1) (fun _ _=>rfl)))))))
   (Zag (Zat (pv 2)))))),?_⟩
  have sz:∀k:Nat,k≤1000→k≤sizeLine:=fun k h=>Nat.le_trans h (by rw[sizeLine_eq];decide)
  walk_at "rd"
  refine⟨_,_,rfl,fun r0 h0=>?_⟩
  walk_at "rd?"
  have g1:=Int.emod_nonneg r0 (show (8:Int)≠0 by decide)
  have g2:=Int.emod_lt_of_pos r0 (show (0:Int)<8 by decide)
  generalize r0 % 8=a0 at g1 g2
  refine⟨by decide,[97,98,99,100,101,102,103,104],_,_,rfl,rfl,sz _ (by decide),Zfx (by omega) (by show _<(8:Int);omega),_,_,rfl,fun r1 h1=>?_⟩
  rw[Zjn _ (by omega)]
  walk_at "rd?"
  refine⟨by decide,_,rfl,by omega,by omega,ForRun.range (fun i σ H'=>H'=H∧∃(at_:Int) (f:List Nat) (v3:Option V),σ=[some (.int c),some (.int at_),some (tx f),v3]∧0≤at_∧at_≤7+6*i∧f.length=i+1∧f.Pairwise (· < ·)∧∀x∈f,97≤x∧x≤97+at_.toNat) ⟨rfl,_,_,_,rfl,by omega,by omega,rfl,by simp,by simp⟩ ?_ ?_⟩
  ·rintro i σ H1 hi ⟨rfl,at_,f,v3,rfl,b0,b1,fl,fp,fm⟩
   walk_at "rd"
   refine⟨_,_,rfl,fun r2 h2=>?_⟩
   walk_at "rd?"
   have g3:=Int.emod_nonneg r2 (show (6:Int)≠0 by decide)
   have g4:=Int.emod_lt_of_pos r2 (show (0:Int)<6 by decide)
   generalize r2 % 6=a2 at g3 g4
   refine⟨by decide,LET,_,_,rfl,rfl,sz _ (by decide),Zfx (by omega) (by show _<(26:Int);omega),sz _ (by omega),by trivial,_,_,_,rfl,by omega,by omega,by simp[fl],?_,?_⟩
   ·rw[ZgP _ (by omega),List.pairwise_append]
    refine⟨fp,by simp,fun x hx y hy=>?_⟩
    rw[List.mem_singleton.mp hy]
    have:=fm x hx
    omega
   ·intro x hx
    rw[ZgP _ (by omega)]at hx
    rcases List.mem_append.mp hx with z | z
    ·have:=fm x z;omega
    ·rw[List.mem_singleton.mp z];omega
  ·rintro σ H1 ⟨rfl,at_,f,v3,rfl,b0,b1,fl,fp,fm⟩
   walk_at "rd"
   exact q f (ZkT (by omega) (by omega) (fun x hx=>Zh2 (fm x hx).1 (by have:=(fm x hx).2;omega)) fp) (by omega) (by omega)
theorem ZdR:FnScope ["_law_cell","_law_by_digits","_law_kinds_here","_law_many","_law_text_here","_law_left","_law_k","_law_number"] ["_law_cell","_law_by_digits","_law_kinds_here","_law_many"] (Zai s_K1):=by walk_at "sc"
theorem ZkC (T:TL K mg base a tb):FnOk P w K mg base CX0 2 a.f_K1 a.d_K1 ["_law_cell","_law_by_digits","_law_kinds_here","_law_many"] (ZlT K a):=by
 refine T.f_K1.ok ZdR (fun vs H Q E h=>?_) (fun cdv A outer s H vs Q E hr h=>?_)
 ·obtain⟨_,_,_,_,rfl,_⟩:=h;rfl
 ·have hu64:=hr.units
  have hu1:=ZaM hr
  obtain⟨c,d,m,n,rfl,hm,h4,h0,h1,q⟩:=h
  refine⟨_,(Zab (Zaq (i:=4) ZdR.nd rfl (Or.inl rfl) (Zcr (l:=[]) (by decide +kernel)))
   (Zab (Zaq (i:=5) ZdR.nd rfl (Or.inl rfl) (pv 0))
   (Zab (ZbE PassesOwn.never rfl (Zbe rfl T.z_range (Zaa (pv 3) Zae)) (ZaD (i:=6) ZdR.nd rfl (Or.inl rfl))
   (Zab (Zaq (i:=7) ZdR.nd rfl (Or.inl rfl) (pv 5))
   (Zab (Zbd (PW.pt (ZeA (Zb8 (Zbt (pv 1))) (ZeA (Zaw (Za1 (K:=K) rfl hu64) (pv 5) Zaj (Zay _)) (ZdS (Zaw (Za1 (K:=K) rfl hu64) (pv 5) (Zmo ZjN Zaj) (Zay _)))))) (Zag (Zaq (i:=7) ZdR.nd rfl (Or.inl rfl) (Zam (ZbO T) (hr.mono (by decide)) rfl T.m_K4 T.f_K4.kp T.b_K4 .nil Zau (Zaa (pv 0) (Zaa (Zax ZaT Zaj (pv 6)) Zae))))) ZaB)
   (Zak (Zab (Zaq (i:=4) ZdR.nd rfl (Or.inl rfl) (Zax Zbw (pv 4) (ZbH Zh6 (pv 2) (Zax ZaP (pv 7) (Zal (Zan (K:=K) rfl) rfl T.z_len ZaH (Zaa (pv 2) Zae))) (fun _ _=>rfl))))
   (Zag (Zaq (i:=5) ZdR.nd rfl (Or.inl rfl) (Zax Zjf (pv 5) (Zal (Zan (K:=K) rfl) rfl T.z_len ZaH (Zaa (pv 2) Zae))))))))))
   (Zag (Zat (pv 4)))))),?_⟩
  walk_at "rd"
  refine⟨n,rfl,by omega,by omega,ForRun.range (fun i σ H'=>H'=H∧∃(f:List Nat) (le:Int) (v6 v7:Option V),σ=[some (.int c),some (.bl d),some (tx m),some (.int n),some (tx f),some (.int le),v6,v7]∧f.length=i∧∀x∈f,x∈m) ⟨rfl,[],c,none,none,rfl,rfl,by simp⟩ ?_ ?_⟩
  ·rintro i σ H1 hi ⟨rfl,f,le,v6,v7,rfl,hf,fm⟩
   have hM:m.length≤1000:=by omega
   have sz:m.length≤sizeLine:=Nat.le_trans hM (by rw[sizeLine_eq];decide)
   have sf:f.length+1≤sizeLine:=by rw[sizeLine_eq];omega
   have pm:(0:Int)<m.length:=by omega
   have cd:CDiv le m.length:=⟨pm,by omega⟩
   walk_at "rd"
   apply ZcV (C:=fun _=>True)
   ·intro tail
    refine ite2 (fun h=>iteT' ⟨_,_,rfl,fun r hr=>tail r trivial⟩) (fun h=>.inl ⟨rfl,_,rfl,ite2 (fun h=>iteT' ⟨_,_,rfl,fun r hr=>tail r trivial⟩) (fun h=>.inl ⟨rfl,_,rfl,ite2 (fun h=>⟨_,_,rfl,fun r hr=>tail r trivial⟩) (fun h=>tail le trivial)⟩)⟩)
   ·intro nu _
    refine Zao ?_
    walk_at "rd"
    obtain⟨cc,hcc,mc⟩:=ZiO (xs:=m) (i:=nu % m.length) (Int.emod_nonneg _ (by omega)) (Int.emod_lt_of_pos _ pm)
    exact⟨_,_,rfl,ZbZ hM,pm,m,_,cc,rfl,rfl,sz,hcc,sf,_,_,rfl,ZbZ hM,cd,by trivial,_,_,_,_,rfl,by simp[hf],fun x hx=>(List.mem_append.mp hx).elim (fun z=>fm x z) fun z=>by rw[List.mem_singleton.mp z];exact mc⟩
  ·rintro σ H1 ⟨rfl,f,le,v6,v7,rfl,hf,fm⟩
   walk_at "rd"
   exact q f (by omega) fm
theorem Zi1:FnScope ["_law_text_here","_law_known","_law_found","_law_word"] ["_law_text_here","_law_known"] (Zai s_K6):=by walk_at "sc"
theorem ZmF (T:TL K mg base a tb):FnOk P w K mg base CX0 2 a.f_K6 a.d_K6 ["_law_text_here","_law_known"] (ZlO K a):=by
 refine T.f_K6.okC T.cd_K6 Zi1 (fun vs H Q E h=>?_) (fun A outer s H vs Q E hr h=>?_)
 ·obtain⟨_,_,_,rfl,_⟩:=h;rfl
 ·have hu64:=hr.units
  have hu1:=ZaM hr
  obtain⟨l,pq,kvs,rfl,hl,hq,kn,tk,q⟩:=h
  refine⟨_,(Zab (Zaq (i:=2) Zi1.nd rfl (Or.inl rfl) Zfa)
   (Zak (Zab (ZbE PassesOwn.never rfl (ZbN (K:=K) rfl (ZdV (q:="_law_sorts.<locals>.<lambda>") hr rfl T.L_sorts rfl rfl T.z_sorted T.z_len (Zaa (pv 1) Zae) rfl rfl (by kernel_rfl) ⟨rfl,rfl,rfl,rfl,rfl,rfl⟩ (fun _ _ _ _ _=>.of_eq rfl))) (ZaD (i:=3) Zi1.nd rfl (Or.inl rfl))
   (Zag (ZaU (Zbu hu1 (pv 2) (Zam (ZmI T) (hr.mono (by decide)) rfl T.m_K0 T.f_K0.kp T.b_K0 .nil Zau (Zaa (pv 0) (Zaa (pv 3) (Zaa (pv 1) Zae)))) (pv 3) ⟨rfl,rfl,rfl,rfl⟩))))
   (Zak (Zag (Zat (ZdW rfl rfl T.z_list (pv 2)))))))),?_⟩
  have sz:∀k:Nat,k≤5000→k≤sizeLine:=fun k h=>Nat.le_trans h (by rw[sizeLine_eq];decide)
  have kl:=kn.2.2
  have len:(ZaX kvs).length=kvs.length:=List.length_map _
  walk_at "rd"
  intro p hp
  have s1:Same H (upd H p (.dT [])):=ZaA hp
  have h1:upd H p (.dT []) p=some (.dT []):=Zaf
  have npq:p≠pq:=fun z=>by rw[z,hq]at hp;cases hp
  have t1:=tk.same s1
  generalize upd H p (.dT [])=H1 at s1 h1 t1
  have q1:=s1 _ _ hq
  refine Zao ?_
  walk_at "rd"
  refine⟨pq,kvs,ZaX kvs,rfl,q1,kn.keys,fun w hw=>?_,t1,fun ks r H2 pm pw s2 t2 n2 l2=>⟨r,rfl,⟨_,.mk l2⟩,?_⟩⟩
  ·obtain⟨j,hj⟩:=(kn.mem w).mp hw
   exact sz _ (by have:=hj.1;omega)
  have h2:=s2.1 _ _ h1 rfl
  have nr:H r=none:=s1.free n2
  have s02:=SameT.ahead s1 s2
  have rp:r≠p:=fun z=>by rw[z,h1]at n2;cases n2
  have kl2:ks.length=kvs.length:=by rw[pm.length_eq,len]
  refine ForRun.list (xs:=ks.map tx) (fun i σ H'=>∃v3 ds,σ=[some (tx l),some (.ref pq),some (.ref p),v3]∧(∀b o,H2 b=some o→b≠p→H' b=some o)∧H' p=some (.dT (fKV (onwK kvs) ds))∧Firs (onwK kvs) (ks.take i) ds∧ds.length≤i) ⟨_,[],rfl,fun _ _ e _=>e,h2,Firs.nil _,Nat.le_refl _⟩ (fun i σ H' _ ⟨_,_,_,s',_⟩=>.mk (s' _ _ l2 rp)) ?_ ?_
  ·rintro i x σ H4 hx ⟨v3,ds,rfl,s4,l4,fr,dl⟩
   rw[List.getElem?_map]at hx
   obtain⟨w,hr,rfl⟩:=Option.map_eq_some_iff.mp hx
   have hi:=(List.getElem?_eq_some_iff.mp hr).1
   have tks:=ZaK hr
   have hwl:Inf w l:=(kn.mem w).mp (pm.mem_iff.mp (List.mem_of_getElem? hr))
   have old:∀x∈ks.take i,¬BefW w x:=fun x hx=>by
    obtain⟨j,hj,ej⟩:=List.mem_iff_getElem.mp hx
    rw[List.length_take]at hj
    rw[List.getElem_take]at ej
    have:=List.pairwise_iff_getElem.mp pw j i (by omega) hi (by omega)
    rw[ej,(List.getElem?_eq_some_iff.mp hr).2]at this
    exact this
   have q4:H4 pq=some (.dK kvs):=s4 _ _ (s2.1 _ _ q1 rfl) (Ne.symm npq)
   walk_at "rd"
   refine⟨p,rfl,Or.inr ⟨_,Rd.of l4⟩,l,w,pq,kvs,rfl,hl,q4,kn,hwl,fun p5 H5 s5 n5 l5=>⟨_,(onwK kvs) w,p5,s5 _ _ l4,rfl,l5,?_,fun v hv=>?_,fun hv=>?_⟩⟩
   ·unfold fKV
    rw[List.length_map]
    exact Nat.lt_of_lt_of_le (show _<5000 by omega) (sz 5000 (Nat.le_refl _))
   ·refine⟨_,ds,rfl,fun b o e n=>s5 _ _ (s4 b o e n),s5 _ _ l4,?_,by omega⟩
    rw[tks]
    exact fr.old old (ZiE hv)
   ·refine⟨_,ds++[w],rfl,fun b o e n=>by rw[Zac n];exact s5 _ _ (s4 b o e n),by rw[Zaf,Zg8 hv],?_,by rw[List.length_append];show ds.length+1≤i+1;omega⟩
    rw[tks]
    exact fr.new old (Zg9 hv)
  ·rintro σ H4 ⟨v3,ds,rfl,s4,l4,fr,dl⟩
   rw[List.length_map,List.take_length]at fr
   walk_at "rd?"
   refine Zao ?_
   walk_at "rd"
   refine⟨p,_,rfl,l4,NewL.of fun p5 H5 s5 n5 l5=>?_⟩
   rw[Zfo]at l5
   have sl:SameT _ H H4:=⟨fun b o e n=>s4 b o (s02.1 b o e n) fun z=>(by rw[z,hp]at e;cases e),fun P' p' q' n T=>ZbJ (s02.2 P' p' q' n T) h2 s4⟩
   have t4:TblOk H4 _ _ _:=ZbJ t2 h2 s4
   exact q p5 ks ds H5 (sl.then s5) (t4.same s5) l5 (fun w=>by rw[pm.mem_iff];exact kn.mem w) fr (by rw[List.length_map]at dl;omega)
theorem ZhD:FnScope ["_law_text_here","_law_word","_law_rests_here","_law_found","_law_rest"] ["_law_text_here","_law_word"] (Zai s_K5):=by walk_at "sc"
theorem ZmG (T:TL K mg base a tb):FnOk P w K mg base CX0 2 a.f_K5 a.d_K5 ["_law_text_here","_law_word"] (ZlP K a):=by
 refine T.f_K5.ok ZhD (fun vs H Q E h=>?_) (fun cdv A outer s H vs Q E hr h=>?_)
 ·obtain⟨_,_,rfl,_⟩:=h;rfl
 ·have hu64:=hr.units
  have hu1:=ZaM hr
  obtain⟨l,w_,rfl,hl,hw,q⟩:=h
  refine⟨_,(Zab (Zi6 (i:=2) (N:=["_law_end","_law_text_here"]) (ix:=[none,some 0]) rfl ZhD.nd rfl rfl rfl (Za0 rfl) rfl (ZbN (K:=K) rfl (Zam (ZmE T) (hr.mono (by decide)) rfl T.m_K7 T.f_K7.kp T.b_K7 .nil Zau (Zaa (pv 0) (Zaa (pv 1) Zae)))) (fun _ _ _ _=>(ZaD (i:=0) (show (["_law_end","_law_text_here"]:List Str).Nodup from by decide +kernel) rfl (Or.inl rfl) (Or.inr rfl))) (fun _ _ _ _=>ZbM) (fun _ _ _ _=>(Za3 ZdQ (pv 1) (Za6 (pv 0)) ZbW)))
   (Zak (Zab (Zaq (i:=3) ZhD.nd rfl (Or.inl rfl) (Zc1 Zae))
   (Zak (Zab (ZbE PassesOwn.never rfl (ZbN (K:=K) rfl (pv 2)) (ZaD (i:=4) ZhD.nd rfl (Or.inr rfl))
   (Zag (Zbd (Zaw (Zkq (K:=K) rfl hu64) (Zbv (N:=["_law_one","_law_rest"]) (ix:=[none,some 4]) rfl (Za0 rfl) rfl (ZbN (K:=K) rfl (pv 2)) (fun _ _ _ _=>(ZaD (i:=0) (show (["_law_one","_law_rest"]:List Str).Nodup from by decide +kernel) rfl (Or.inl rfl) (Or.inr rfl))) (fun _ _ _ _=>(Zca (PW.pt (Ze6 (Zaw (ZbI (K:=K) rfl hu64) (pv 0) (pv 1) (Zay _)) (Zdl (Zbt (ZdX (K:=K) rfl PySem.F.plainAttrs_str PySem.F.slot_str_startswith PySem.F.type_str_startswith ZbQ (pv 0) (Zaa (pv 1) Zae)))))))) (fun _ _ _ _=>(pv 0))) (Zc1 Zae) (Zay _)) (Zag (ZaU (ZfM PySem.F.plainAttrs_list PySem.F.slot_list_append PySem.F.type_list_append Zbg (pv 3) (Zaa (pv 4) Zae)))) ZaB)))
   (Zak (Zag (Zat (Zbf (ZaW (K:=K) rfl) rfl T.z_tuple Zcd (Zaa (Zal (ZbT rfl) rfl T.z_sorted ZcN (Zaa (pv 3) Zae)) Zae)))))))))),?_⟩
  have sz:∀k:Nat,k≤2000→k≤sizeLine:=fun k h=>Nat.le_trans h (by rw[sizeLine_eq];decide)
  walk_at "rd"
  have el:=Zda l w_
  refine⟨l,w_,rfl,hl,hw,fun p1 H1 s1 n1 l1=>⟨p1,rfl,⟨_,.mk l1⟩,CompRun.listL (xs:=(Zbq l w_).map fun (i:Nat)=>V.int i) (fun _=>true) (fun i=>tx (l.drop ((Zbq l w_).getD i 0))) (by rw[List.length_map];omega) (.mk l1) (fun i H' Q' _ _ q=>q H' (Same.refl _)) ?_ ?_⟩⟩
  ·intro i H2 Q2 hi _ s2 q2
   rw[List.length_map]at hi
   have ev:((Zbq l w_).map fun (i:Nat)=>V.int i).getD i .non=.int ((Zbq l w_).getD i 0:Nat):=by simp[List.getD_eq_getElem?_getD,List.getElem?_eq_getElem hi]
   rw[ev]
   walk_at "rd"
   refine⟨_,rfl,l,rfl,sz _ (by omega),?_⟩
   rw[Zcc]
   exact q2 H2 (Same.refl _)
  ·intro p2 H2 s2 n2 l2
   rw[filter_all,List.length_map]at l2
   have e2:(List.range (Zbq l w_).length).map (fun i=>tx (l.drop ((Zbq l w_).getD i 0)))=(Zco l w_).map tx:=by
    unfold Zco
    rw[List.map_map]
    apply List.ext_getElem (by simp)
    intro i h1 h2
    have hi:i<(Zbq l w_).length:=by simpa using h2
    simp[List.getD_eq_getElem?_getD,List.getElem?_eq_getElem hi]
   rw[e2]at l2
   have rl:=Zgs l w_
   have fin:=ZhH l w_
   clear e2 l1
   unfold Zdk at q
   rw[←fin]at q
   generalize Zco l w_=rs at *
   have s02:Same H H2:=s1.trans s2
   have n2':H p2=none:=s1.free n2
   refine Zao ?_
   walk_at "rd"
   refine⟨Nat.zero_le _,NewL.of fun p3 H3 s3 n3 l3=>Zao ?_⟩
   walk_at "rd"
   have n3':H p3=none:=s02.free n3
   have l23:=s3 _ _ l2
   have n23:p2≠p3:=Zah l2 n3
   have n32:H2 p3=none:=n3
   refine⟨p2,rfl,⟨_,.mk l23⟩,ForRun.list (xs:=rs.map tx) (fun i σ H'=>∃v4,σ=[some (tx l),some (tx w_),some (.ref p2),some (.ref p3),v4]∧Same H2 H'∧H' p3=some (.lst (((rs.take i).filter (farB rs)).map tx))) ⟨_,rfl,s3,l3⟩ (fun i σ H' _ ⟨_,_,s',_⟩=>.mk (s' _ _ l2)) ?_ ?_⟩
   ·rintro i x σ H4 hx ⟨v4,rfl,s4,l4⟩
    rw[List.getElem?_map]at hx
    obtain⟨r,hr,rfl⟩:=Option.map_eq_some_iff.mp hx
    have hi:=(List.getElem?_eq_some_iff.mp hr).1
    have tk:=ZaK hr
    walk_at "rd"
    have l24:=s4 _ _ l2
    refine⟨p2,rfl,⟨_,.mk l24⟩,CompRun.listL (xs:=rs.map tx) (fun k=>decide (¬rs.getD k []=r)&&startsB (rs.getD k []) r) (fun k=>tx (rs.getD k [])) (by rw[List.length_map];omega) (.mk l24) ?_ ?_ ?_⟩
    ·intro k H5 Q5 hk s5 q5
     rw[List.length_map]at hk
     rw[Zg4 hk]
     walk_at "rd"
     by_cases e:rs.getD k []=r
     ·refine .inl ⟨rfl,false,by rw[e];simp,?_⟩
      rw[if_neg Bool.false_ne_true]
      have:=q5 H5 (Same.refl _)
      rw[decide_eq_false (fun z=>z e),Bool.false_and]at this
      exact this
     ·refine .inl ⟨rfl,true,by rw[if_pos rfl,decide_eq_false fun z=>e (ZdH.mp z)];rfl,?_⟩
      rw[if_pos rfl]
      refine⟨rfl,_,_,rfl,rfl,?_⟩
      have:=q5 H5 (Same.refl _)
      rw[decide_eq_true e,Bool.true_and]at this
      exact this
    ·intro k H5 Q5 hk _ s5 q5
     rw[List.length_map]at hk
     rw[Zg4 hk]
     walk_at "rd"
     exact q5 H5 (Same.refl _)
    ·intro p5 H5 s5 n5 l5
     rw[List.length_map]at l5
     have e0:((List.range rs.length).filter fun k=>decide (¬rs.getD k []=r)&&startsB (rs.getD k []) r).map (fun k=>tx (rs.getD k []))=(rs.filter fun x=>decide (¬x=r)&&startsB x r).map tx:=by
      rw[←Zb2 (fun x=>decide (¬x=r)&&startsB x r) [] rs,List.map_map]
      rfl
     rw[e0]at l5
     refine⟨Nat.zero_le _,NewL.of fun p6 H6 s6 n6 l6=>?_⟩
     refine .inl (.inl (ZiF (xs:=rs.filter fun x=>decide (¬x=r)&&startsB x r) (ys:=[]) (.mk (s6 _ _ l5)) (.mk l6) ?_))
     refine⟨farB rs r,rfl,?_⟩
     have s46:Same H4 H6:=s5.trans s6
     have l46:=s46 _ _ l4
     cases hf:farB rs r with
     | false=>
      rw[if_neg Bool.false_ne_true]
      refine⟨_,rfl,s4.trans s46,?_⟩
      rw[l46,tk,List.filter_append,List.filter_cons,hf]
      simp
     | true=>
      rw[if_pos rfl]
      refine⟨.inl ⟨rfl,_,.mk l46⟩,p3,_,_,rfl,rfl,l46,?_,_,rfl,same_upd3 (s4.trans s46) n32,?_⟩
      ·rw[List.length_map]
       exact Nat.lt_of_le_of_lt (Nat.le_trans (List.length_filter_le ..) (show (rs.take i).length≤50 by rw[List.length_take];omega)) (by rw[sizeLine_eq];decide)
      ·rw[Zaf,tk,List.filter_append,List.filter_cons,hf]
       simp
   ·rintro σ H4 ⟨v4,rfl,s4,l4⟩
    rw[List.length_map,List.take_length]at l4
    walk_at "rd?"
    refine Zao ?_
    walk_at "rd"
    refine⟨p3,_,rfl,l4,sz _ (Nat.le_trans (List.length_filter_le ..) (by omega)),NewL.of fun p5 H5 s5 n5 l5=>?_⟩
    refine⟨p5,_,rfl,.inl ⟨.mk l5,fun p6 n6=>?_⟩⟩
    refine q p6 _ ?_ ?_ ?_
    ·exact same_upd3 (s02.trans (s4.trans s5)) ((s02.trans (s4.trans s5)).free n6)
    ·exact(s02.trans (s4.trans s5)).free n6
    ·rw[Zaf,List.map_map]
     rfl
theorem Zmb:FnScope ["self","room"] ["self","room"] (Zai s_KA):=by walk_at "sc"
theorem ZkA (T:TL K mg base a tb):FnOk P w K mg base CX0 2 a.g_KA a.e_KA ["self","room"] (ZlM K a):=by
 refine T.fm_KA.ok Zmb (fun vs H Q E h=>?_) (fun cdv A outer s H vs Q E hr h=>?_)
 ·obtain⟨_,_,_,_,_,rfl,_⟩:=h;rfl
 ·have hu64:=hr.units
  have hu1:=ZaM hr
  obtain⟨p,l,m,sp,i,rfl,hp,hi,q⟩:=h
  refine⟨_,(Zag (Zbd (Zb8 (Zbt (Zam (Zmx T) (hr.mono (by decide)) rfl T.m_KQ T.f_KQ.kp T.b_KQ .nil Zau (Zaa (pv 1) (Zaa Zaj (Zaa (Zax Zkm (Zal (Zan (K:=K) rfl) rfl T.z_len ZaH (Zaa (ZbX (K:=K) rfl (pv 0) rfl) Zae)) Zaj) Zae)))))) (Zag ZhM) ZaB)),?_⟩
  obtain⟨dx,qa,ys,h1,h2,h3⟩:=hp
  have e:=h3.len
  walk_at "rd"
  refine⟨p,_,dx,_,_,rfl,h1,T.cl_KW,T.n_Machine_own_rooms,Zbo,_,_,rfl,.inl ⟨_,.mk h2,rfl⟩,_,_,_,rfl,_,rfl,?_⟩
  rw[decide_eq_true (show (0:Int)≤(i:Nat) by omega),decide_eq_true (show ((i:Nat):Int)≤(ys.length:Nat)-1 by omega)]
  exact iteF q
theorem Zl1:FnScope ["thing","kinds"] ["thing","kinds"] (Zai s_KP):=by walk_at "sc"
theorem Zmy (T:TL K mg base a tb):FnOk P w K mg base CX0 3 a.f_KP a.d_KP ["thing","kinds"] (ZlB K a):=by
 refine T.f_KP.ok Zl1 (fun vs H Q E h=>?_) (fun cdv A outer s H vs Q E hr h=>?_)
 ·obtain⟨_,_,rfl,_⟩:=h;rfl
 ·have hu64:=hr.units
  have hu1:=ZaM hr
  obtain⟨c,m,rfl,hc,q⟩:=h
  refine⟨_,(Zag (Zat (ZdY (Zam (Zks T) (hr.mono (by decide)) rfl T.m_KX T.f_KX.kp T.b_KX .nil Zau (Zaa (pv 0) (Zaa (pv 1) (Zaa Zaj Zae)))) (Ze8 (Zbm (Za1 (K:=K) rfl hu64) (Zal (Zan (K:=K) rfl) rfl T.z_len ZaH (Zaa (pv 0) Zae)) Zaj (Zay _)))))),?_⟩
  walk_at "rd"
  refine⟨[c],m,1,rfl,by simp,fun H1 s1=>⟨_,rfl,?_⟩⟩
  have e:isw [c] m 1=true:=ZgY (by simp) (fun x hx=>by rw[List.mem_singleton.mp hx];exact hc)
  rw[e]
  exact iteT ⟨_,_,rfl,ZbZ (by simp),eq_int (q H1 s1)⟩
theorem Zl2:FnScope ["thing"] ["thing"] (Zai s_KO):=by walk_at "sc"
theorem Zmz (T:TL K mg base a tb):FnOk P w K mg base CX0 3 a.f_KO a.d_KO ["thing"] (ZlC K a):=by
 refine T.f_KO.ok Zl2 (fun vs H Q E h=>?_) (fun cdv A outer s H vs Q E hr h=>?_)
 ·obtain⟨_,rfl,_⟩:=h;rfl
 ·have hu64:=hr.units
  have hu1:=ZaM hr
  obtain⟨l,rfl,hl,hk,q⟩:=h
  refine⟨_,(Zag (Zbd (Zb8 (Zbt (Zam (Zmv T) (hr.mono (by decide)) rfl T.m_KU T.f_KU.kp T.b_KU .nil Zau (Zaa (pv 0) Zae)))) (Zag ZhM) ZaB)),?_⟩
  walk_at "rd"
  refine⟨l,rfl,hl,fun H2 s2=>⟨_,rfl,?_⟩⟩
  rw[hk,Bool.not_true]
  exact iteF (q H2 s2)
theorem ZlZ:FnScope ["thing","kinds","most"] ["thing","kinds","most"] (Zai s_KR):=by walk_at "sc"
theorem Zku (T:TL K mg base a tb):FnOk P w K mg base CX0 3 a.f_KR a.d_KR ["thing","kinds","most"] (Zlz K a):=by
 refine T.f_KR.ok ZlZ (fun vs H Q E h=>?_) (fun cdv A outer s H vs Q E hr h=>?_)
 ·obtain⟨_,_,_,rfl,_⟩:=h;rfl
 ·have hu64:=hr.units
  have hu1:=ZaM hr
  obtain⟨l,m,most,rfl,hl,hk,q⟩:=h
  refine⟨_,(Zag (Zbd (Zb8 (Zbt (Zam (Zks T) (hr.mono (by decide)) rfl T.m_KX T.f_KX.kp T.b_KX .nil Zau (Zaa (pv 0) (Zaa (pv 1) (Zaa (pv 2) Zae)))))) (Zag ZhM) ZaB)),?_⟩
  walk_at "rd"
  refine⟨l,m,most,rfl,hl,fun H2 s2=>⟨_,rfl,?_⟩⟩
  rw[hk,Bool.not_true]
  exact iteF (q H2 s2)
theorem Zey:FnScope ["_law_cell","_law_way","_law_kinds_here","_law_most","_law_many","_law_base","_law_text_here","_law_at"] ["_law_cell","_law_way","_law_kinds_here","_law_most"] (Zai s_K3):=by walk_at "sc"
theorem ZmH (T:TL K mg base a tb):FnOk P w K mg base CX0 3 a.f_K3 a.d_K3 ["_law_cell","_law_way","_law_kinds_here","_law_most"] (ZlR K a):=by
 refine T.f_K3.ok Zey (fun vs H Q E h=>?_) (fun cdv A outer s H vs Q E hr h=>?_)
 ·obtain⟨_,_,_,rfl,_⟩:=h;rfl
 ·have hu64:=hr.units
  have hu1:=ZaM hr
  obtain⟨c,d,m,rfl,hm,h4,q⟩:=h
  refine⟨_,(Zab (Zaq (i:=4) Zey.nd rfl (Or.inl rfl) (Zax ZaP (Zam (ZbO T) (hr.mono (by decide)) rfl T.m_K4 T.f_K4.kp T.b_K4 .nil Zau (Zaa (pv 1) (Zaa Zaj Zae))) Zaj))
   (Zak (Zab (Zbd (Zaw (Za1 (K:=K) rfl hu64) (Zax ZaP (Zam (ZbO T) (hr.mono (by decide)) rfl T.m_K4 T.f_K4.kp T.b_K4 .nil Zau (Zaa (pv 1) (Zaa Zaj Zae))) Zaj) Zaj (Zay _)) (Zag (Zaq (i:=4) Zey.nd rfl (Or.inl rfl) (Zax ZaP (Zam (ZbO T) (hr.mono (by decide)) rfl T.m_K4 T.f_K4.kp T.b_K4 .nil Zau (Zaa (pv 1) (Zaa Zaj Zae))) (Zax ZaT (pv 3) Zaj)))) ZaB)
   (Zak (Zab (Zbd (Zaw ZgF (Zax ZaP (Zam (ZbO T) (hr.mono (by decide)) rfl T.m_K4 T.f_K4.kp T.b_K4 .nil Zau (Zaa (pv 1) (Zaa Zaj Zae))) Zaj) Zaj (Zay _)) (Zag (Zat (Zam (ZkC T) (hr.mono (by decide)) rfl T.m_K1 T.f_K1.kp T.b_K1 .nil Zau (Zaa (pv 0) (Zaa (Zbm (Za1 (K:=K) rfl hu64) (Zax ZaP (Zam (ZbO T) (hr.mono (by decide)) rfl T.m_K4 T.f_K4.kp T.b_K4 .nil Zau (Zaa (pv 1) (Zaa Zaj Zae))) Zaj) Zaj (Zay _)) (Zaa (pv 2) (Zaa (pv 4) Zae))))))) ZaB)
   (Zak (Zab (Zaq (i:=5) Zey.nd rfl (Or.inl rfl) (Zam (ZkC T) (hr.mono (by decide)) rfl T.m_K1 T.f_K1.kp T.b_K1 .nil Zau (Zaa (pv 0) (Zaa (Zbm (Za1 (K:=K) rfl hu64) (Zax ZaP (Zam (ZbO T) (hr.mono (by decide)) rfl T.m_K4 T.f_K4.kp T.b_K4 .nil Zau (Zaa (pv 1) (Zaa Zaj Zae))) Zaj) Zaj (Zay _)) (Zaa (pv 2) (Zaa (Zax ZaT Zaj (Zax ZaP (Zam (ZbO T) (hr.mono (by decide)) rfl T.m_K4 T.f_K4.kp T.b_K4 .nil Zau (Zaa (pv 1) (Zaa Zaj Zae))) Zaj)) Zae))))))
   (Zab (Zaq (i:=6) Zey.nd rfl (Or.inl rfl) (Za3 ZdQ (Zax ZgD (pv 5) (pv 4)) ZbW (Za6 (pv 4))))
   (Zak (Zab (Zbd (PW.pt (Ze6 (Zaw ZgF (pv 4) Zaj (Zay _)) (Zdl (Zaw (Za1 (K:=K) rfl hu64) (Zax ZaP (Zam (ZbO T) (hr.mono (by decide)) rfl T.m_K4 T.f_K4.kp T.b_K4 .nil Zau (Zaa (pv 1) (Zaa Zaj Zae))) Zaj) Zaj (Zay _))))) (Zab (Zaq (i:=7) Zey.nd rfl (Or.inl rfl) (Zax ZaP (Zam (ZbO T) (hr.mono (by decide)) rfl T.m_K4 T.f_K4.kp T.b_K4 .nil Zau (Zaa (pv 1) (Zaa Zaj Zae))) (pv 4)))
   (Zag (Zaq (i:=6) Zey.nd rfl (Or.inl rfl) (Zax Zbw (Zax Zbw (Za3 ZdQ (pv 6) ZbW (Za6 (pv 7))) (ZbH Zh6 (pv 2) (Zax ZaP (Zam (ZbO T) (hr.mono (by decide)) rfl T.m_K4 T.f_K4.kp T.b_K4 .nil Zau (Zaa (pv 1) (Zaa Zaj Zae))) (Zal (Zan (K:=K) rfl) rfl T.z_len ZaH (Zaa (pv 2) Zae))) (fun _ _=>rfl))) (Za3 ZdQ (pv 6) (Za6 (Zax ZaT (pv 7) Zaj)) ZbW))))) ZaB)
   (Zag (Zat (pv 6))))))))))))),?_⟩
  have sz:∀k:Nat,k≤3000→k≤sizeLine:=fun k h=>Nat.le_trans h (by rw[sizeLine_eq];decide)
  have szm:m.length≤sizeLine:=sz _ (by omega)
  have pm:(0:Int)<m.length:=by omega
  walk_at "rd"
  refine⟨_,_,rfl,fun r0 h0=>?_⟩
  walk_at "rd?"
  have g1:=Int.emod_nonneg r0 (show (13:Int)≠0 by decide)
  have g2:=Int.emod_lt_of_pos r0 (show (0:Int)<13 by decide)
  refine⟨by decide,Zao ?_⟩
  generalize r0 % 13=a0 at g1 g2
  walk_at "rd"
  refine⟨_,_,rfl,fun r1 h1=>?_⟩
  walk_at "rd?"
  apply ZcV (C:=fun n=>0≤n∧n≤40)
  ·intro tail
   refine⟨by decide,.inl ⟨rfl,_,rfl,ite2 (fun h=>?A) (fun h=>?B)⟩⟩
   case A=>
    refine⟨_,_,rfl,fun r2 h2=>?_⟩
    walk_at "rd?"
    refine⟨by decide,?_⟩
    have g3:=Int.emod_nonneg r2 (show (40+1:Int)≠0 by decide)
    have g4:=Int.emod_lt_of_pos r2 (show (0:Int)<40+1 by decide)
    generalize r2 % (40+1)=a2 at g3 g4
    exact tail a2 ⟨g3,by omega⟩
   case B=>exact tail a0 ⟨g1,by omega⟩
  ·rintro n ⟨n0,n40⟩
   refine Zao ?_
   walk_at "rd"
   refine⟨_,_,rfl,fun r3 h3=>?_⟩
   walk_at "rd?"
   refine⟨by decide,ite2 (fun h=>?_) (fun h=>Zao ?_)⟩
   ·refine⟨_,_,rfl,fun r4 h4'=>?_⟩
    walk_at "rd?"
    exact⟨by decide,.inl ⟨rfl,c,_,m,n,rfl,hm,h4,n0,by omega,fun w hw wm=>q w (by omega) wm⟩⟩
   ·walk_at "rd"
    refine⟨_,_,rfl,fun r4 h4'=>?_⟩
    walk_at "rd?"
    refine⟨by decide,.inl ⟨rfl,_,_,rfl,fun r5 h5=>?_⟩⟩
    walk_at "rd?"
    refine⟨by decide,c,_,m,_,rfl,hm,h4,by omega,by omega,fun bs hbs bm=>?_⟩
    walk_at "rd?"
    have bl:bs.length≤5:=by omega
    have rl:(repT bs n).length=n.toNat*bs.length:=ZhJ bs n
    have rb:n.toNat*bs.length≤40*5:=Nat.mul_le_mul (by omega) bl
    have cl:(cut (repT bs n) none (some n)).length=n.toNat:=by
     have:n.toNat≤n.toNat*bs.length:=Nat.le_mul_of_pos_right _ (by omega)
     rw[Zlc _ n0,List.length_take,rl]
     omega
    have cm:∀x∈cut (repT bs n) none (some n),x∈m:=fun x hx=>bm x (ZhI (ZeD hx))
    refine⟨bs,n,rfl,rfl,n0,by omega,by omega,_,rfl,repT bs n,rfl,sz _ (by omega),Zao ?_⟩
    generalize cut (repT bs n) none (some n)=tt at cl cm
    walk_at "rd"
    refine ite2 (fun h=>?_) (fun h=>iteF (q tt (by omega) cm))
    have hn:=of_decide_eq_true h
    refine⟨_,_,rfl,fun r6 h6=>?_⟩
    walk_at "rd?"
    refine⟨by decide,.inl ⟨rfl,_,rfl,ite2 (fun h=>?_) (fun h=>q tt (by omega) cm)⟩⟩
    refine⟨_,_,rfl,fun r7 h7=>?_⟩
    walk_at "rd?"
    have e1:=Int.emod_nonneg r7 (show n≠0 by omega)
    have e2:=Int.emod_lt_of_pos r7 hn
    refine⟨hn,_,rfl,tt,rfl,sz _ (by omega),?_⟩
    generalize r7 % n=at_ at e1 e2
    refine⟨_,_,rfl,fun r8 h8=>⟨_,_,rfl,ZbZ (by omega),?_⟩⟩
    walk_at "rd?"
    obtain⟨cc,hcc,mc⟩:=ZiO (xs:=m) (i:=r8 % m.length) (Int.emod_nonneg _ (by omega)) (Int.emod_lt_of_pos _ pm)
    have t1:=Zlc tt (i:=at_) e1
    have t2:=ZjB tt (i:=at_+1) (by omega)
    have t3:(cut tt none (some at_)).length=at_.toNat:=by rw[t1,List.length_take];omega
    have t4:(cut tt (some (at_+1)) none).length=n.toNat-(at_.toNat+1):=by rw[t2,List.length_drop];omega
    refine⟨pm,m,_,cc,rfl,rfl,szm,hcc,sz _ (by omega),_,rfl,tt,rfl,sz _ (by omega),sz _ (by rw[List.length_append,List.length_singleton];omega),q _ (by rw[List.length_append,List.length_append,List.length_singleton];omega) fun x hx=>?_⟩
    rcases List.mem_append.mp hx with z | z
    ·rcases List.mem_append.mp z with z | z
     ·exact cm x (ZeD z)
     ·rw[List.mem_singleton.mp z];exact mc
    ·exact cm x (ZeD z)
theorem Zi0:FnScope ["_law_text_here","_law_known","_law_found","_law_word"] ["_law_text_here","_law_known"] (Zai s_KY):=by walk_at "sc"
theorem Zmt (T:TL K mg base a tb):FnOk P w K mg base CX0 3 a.f_KY a.d_KY ["_law_text_here","_law_known"] (Zlt K a):=by
 refine T.f_KY.okC T.cd_KY Zi0 (fun vs H Q E h=>?_) (fun A outer s H vs Q E hr h=>?_)
 ·obtain⟨_,_,_,rfl,_⟩:=h;rfl
 ·have hu64:=hr.units
  have hu1:=ZaM hr
  obtain⟨l,pq,kvs,rfl,hl,hq,kn,tk,q⟩:=h
  refine⟨_,(Zab (Zaq (i:=2) Zi0.nd rfl (Or.inl rfl) Zfa)
   (Zak (Zab (ZbE PassesOwn.never rfl (ZbN (K:=K) rfl (ZdV (q:="_law_firsts.<locals>.<lambda>") hr rfl T.L_firsts rfl rfl T.z_sorted T.z_len (Zaa (pv 1) Zae) rfl rfl (by kernel_rfl) ⟨rfl,rfl,rfl,rfl,rfl,rfl⟩ (fun _ _ _ _ _=>.of_eq rfl))) (ZaD (i:=3) Zi0.nd rfl (Or.inl rfl))
   (Zag (ZaU (Zbu hu1 (pv 2) (Zam (ZmG T) (hr.mono (by decide)) rfl T.m_K5 T.f_K5.kp T.b_K5 .nil Zau (Zaa (pv 0) (Zaa (pv 3) Zae))) (pv 3) ⟨rfl,rfl,rfl,rfl⟩))))
   (Zak (Zag (Zat (ZdW rfl rfl T.z_list (pv 2)))))))),?_⟩
  have sz:∀k:Nat,k≤5000→k≤sizeLine:=fun k h=>Nat.le_trans h (by rw[sizeLine_eq];decide)
  have kl:=kn.2.2
  have len:(ZaX kvs).length=kvs.length:=List.length_map _
  walk_at "rd"
  intro p hp
  have s1:Same H (upd H p (.dT [])):=ZaA hp
  have h1:upd H p (.dT []) p=some (.dT []):=Zaf
  have npq:p≠pq:=fun z=>by rw[z,hq]at hp;cases hp
  have t1:=tk.same s1
  generalize upd H p (.dT [])=H1 at s1 h1 t1
  have q1:=s1 _ _ hq
  refine Zao ?_
  walk_at "rd"
  refine⟨pq,kvs,ZaX kvs,rfl,q1,kn.keys,fun w hw=>?_,t1,fun ks r H2 pm pw s2 t2 n2 l2=>⟨r,rfl,⟨_,.mk l2⟩,?_⟩⟩
  ·obtain⟨j,hj⟩:=(kn.mem w).mp hw
   exact sz _ (by have:=hj.1;omega)
  have h2:=s2.1 _ _ h1 rfl
  have nr:H r=none:=s1.free n2
  have s02:=SameT.ahead s1 s2
  have rp:r≠p:=fun z=>by rw[z,h1]at n2;cases n2
  have kl2:ks.length=kvs.length:=by rw[pm.length_eq,len]
  refine ForRun.list (xs:=ks.map tx) (fun i σ H'=>∃v3 ds,σ=[some (tx l),some (.ref pq),some (.ref p),v3]∧(∀b o,H2 b=some o→b≠p→H' b=some o)∧H' p=some (.dT (fKV (Zdk l) ds))∧Firs (Zdk l) (ks.take i) ds∧ds.length≤i) ⟨_,[],rfl,fun _ _ e _=>e,h2,Firs.nil _,Nat.le_refl _⟩ (fun i σ H' _ ⟨_,_,_,s',_⟩=>.mk (s' _ _ l2 rp)) ?_ ?_
  ·rintro i x σ H4 hx ⟨v3,ds,rfl,s4,l4,fr,dl⟩
   rw[List.getElem?_map]at hx
   obtain⟨w,hr,rfl⟩:=Option.map_eq_some_iff.mp hx
   have hi:=(List.getElem?_eq_some_iff.mp hr).1
   have tks:=ZaK hr
   have hwl:Inf w l:=(kn.mem w).mp (pm.mem_iff.mp (List.mem_of_getElem? hr))
   have old:∀x∈ks.take i,¬BefW w x:=fun x hx=>by
    obtain⟨j,hj,ej⟩:=List.mem_iff_getElem.mp hx
    rw[List.length_take]at hj
    rw[List.getElem_take]at ej
    have:=List.pairwise_iff_getElem.mp pw j i (by omega) hi (by omega)
    rw[ej,(List.getElem?_eq_some_iff.mp hr).2]at this
    exact this
   have q4:H4 pq=some (.dK kvs):=s4 _ _ (s2.1 _ _ q1 rfl) (Ne.symm npq)
   walk_at "rd"
   refine⟨p,rfl,Or.inr ⟨_,Rd.of l4⟩,l,w,rfl,hl,hwl,fun p5 H5 s5 n5 l5=>⟨_,(Zdk l) w,p5,s5 _ _ l4,rfl,l5,?_,fun v hv=>?_,fun hv=>?_⟩⟩
   ·unfold fKV
    rw[List.length_map]
    exact Nat.lt_of_lt_of_le (show _<5000 by omega) (sz 5000 (Nat.le_refl _))
   ·refine⟨_,ds,rfl,fun b o e n=>s5 _ _ (s4 b o e n),s5 _ _ l4,?_,by omega⟩
    rw[tks]
    exact fr.old old (ZiE hv)
   ·refine⟨_,ds++[w],rfl,fun b o e n=>by rw[Zac n];exact s5 _ _ (s4 b o e n),by rw[Zaf,Zg8 hv],?_,by rw[List.length_append];show ds.length+1≤i+1;omega⟩
    rw[tks]
    exact fr.new old (Zg9 hv)
  ·rintro σ H4 ⟨v3,ds,rfl,s4,l4,fr,dl⟩
   rw[List.length_map,List.take_length]at fr
   walk_at "rd?"
   refine Zao ?_
   walk_at "rd"
   refine⟨p,_,rfl,l4,NewL.of fun p5 H5 s5 n5 l5=>?_⟩
   rw[Zfo]at l5
   have sl:SameT _ H H4:=⟨fun b o e n=>s4 b o (s02.1 b o e n) fun z=>(by rw[z,hp]at e;cases e),fun P' p' q' n T=>ZbJ (s02.2 P' p' q' n T) h2 s4⟩
   have t4:TblOk H4 _ _ _:=ZbJ t2 h2 s4
   exact q p5 ks ds H5 (sl.then s5) (t4.same s5) l5 (fun w=>by rw[pm.mem_iff];exact kn.mem w) fr (by rw[List.length_map]at dl;omega)
theorem Zma:FnScope ["self","room"] ["self","room"] (Zai s_KC):=by walk_at "sc"
theorem ZmD (T:TL K mg base a tb):FnOk P w K mg base CX0 3 a.g_KC a.e_KC ["self","room"] (ZlK K a):=by
 refine T.fm_KC.ok Zma (fun vs H Q E h=>?_) (fun cdv A outer s H vs Q E hr h=>?_)
 ·obtain⟨_,_,_,_,_,_,_,rfl,_⟩:=h;rfl
 ·have hu64:=hr.units
  have hu1:=ZaM hr
  obtain⟨p,l,m,sp,ws,i,w_,rfl,hp,hi,q⟩:=h
  refine⟨_,(Zab (ZaU (Zbl (pv 0) T.cl_KW T.me_KA (ZkA T) (hr.mono (by decide)) T.b_KA .nil Zau (Zaa (pv 1) Zae)))
   (Zag (Zat (ZbH (ZgX (K:=K) rfl) (ZbH (ZaZ (K:=K) rfl) (ZbX (K:=K) rfl (pv 0) rfl) (pv 1) (fun _ _=>rfl)) Zaj (fun _ _=>rfl))))),?_⟩
  obtain⟨dx,qa,ys,h1,h2,e,wa⟩:=hp.wds
  have hiw:=(List.getElem?_eq_some_iff.mp hi).1
  have hl:=hp.len
  have hy:ys[i]?=some ys[i]:=List.getElem?_eq_getElem (by omega)
  obtain⟨t,d,w1,ey,ht,hs⟩:=wa i _ hy
  rw[hi]at hs
  cases hs
  walk_at "rd"
  refine⟨p,dx,_,rfl,h1,ZaQ (by decide +kernel) (by decide +kernel),p,l,m,sp,i,rfl,hp.mach,by omega,p,_,dx,_,_,rfl,h1,T.cl_KW,T.n_Machine_own_rooms,Zbo,qa,ys,_,ys[i],rfl,rfl,.mk h2,?_,?_⟩
  ·unfold atI ixN
   rw[if_pos (by omega),if_pos (by omega),Option.bind_some,Int.toNat_natCast]
   exact hy
  ·rw[ey]
   exact⟨t,_,_,_,rfl,rfl,.mk ht,rfl,q⟩
theorem Zl3:FnScope ["thing","kinds"] ["thing","kinds"] (Zai s_KL):=by walk_at "sc"
theorem ZmA (T:TL K mg base a tb):FnOk P w K mg base CX0 4 a.f_KL a.d_KL ["thing","kinds"] (ZlD K a):=by
 refine T.f_KL.ok Zl3 (fun vs H Q E h=>?_) (fun cdv A outer s H vs Q E hr h=>?_)
 ·obtain⟨_,_,rfl,_⟩:=h;rfl
 ·have hu64:=hr.units
  have hu1:=ZaM hr
  obtain⟨c,m,rfl,hc,q⟩:=h
  refine⟨_,(Zag (Zbd (Zb8 (Zbt (Zam (Zmy T) (hr.mono (by decide)) rfl T.m_KP T.f_KP.kp T.b_KP .nil Zau (Zaa (pv 0) (Zaa (pv 1) Zae))))) (Zag ZhM) ZaB)),?_⟩
  walk_at "rd"
  exact⟨c,m,rfl,hc,fun H1 s1=>⟨true,rfl,iteF (q H1 s1)⟩⟩
theorem ZhB:FnScope ["self","word","room","letter"] ["self","word"] (Zai s_KB):=by walk_at "sc"
theorem Zkz (T:TL K mg base a tb):FnOk P w K mg base CX0 4 a.g_KB a.e_KB ["self","word"] (ZlL K a):=by
 refine T.fm_KB.ok ZhB (fun vs H Q E h=>?_) (fun cdv A outer s H vs Q E hr h=>?_)
 ·obtain⟨_,_,_,_,_,rfl,_⟩:=h;rfl
 ·have hu64:=hr.units
  have hu1:=ZaM hr
  obtain⟨p,l,m,sp,w_,rfl,hp,hw,hm,q⟩:=h
  refine⟨_,(Zab (ZaU (Zam (Zku T) (hr.mono (by decide)) rfl T.m_KR T.f_KR.kp T.b_KR .nil Zau (Zaa (pv 1) (Zaa (ZbX (K:=K) rfl (pv 0) rfl) (Zaa (Zdn rfl T.c_KM) Zae)))))
   (Zab (Zaq (i:=2) ZhB.nd rfl (Or.inl rfl) Zaj)
   (Zak (Zab (ZbE PassesOwn.never rfl (Zcq (pv 1)) (ZaD (i:=3) ZhB.nd rfl (Or.inl rfl))
   (Zab (Zaq (i:=2) ZhB.nd rfl (Or.inl rfl) (Zbl (pv 0) T.cl_KW T.me_KI (Zkw T) (hr.mono (by decide)) T.b_KI .nil Zau (Zaa (pv 2) (Zaa (pv 3) Zae))))
   (Zag (Zbd (Zaw Zko (pv 2) Ziu (Zay _)) (Zag (Zat Ziu)) ZaB))))
   (Zak (Zag (Zat (pv 2)))))))),?_⟩
  obtain⟨dx,qa,ys,h1,h2,h3⟩:=id hp
  walk_at "rd"
  refine⟨p,_,dx,_,_,rfl,h1,T.cl_KW,T.n_Machine_own_kinds,ZcD,w_,m,60,rfl,by omega,ZgY (by omega) hm,fun H1 s1=>Zao ?_⟩
  walk_at "rd"
  refine⟨w_,rfl,ForRun.text (fun i σ H'=>H'=H1∧∃(j:Nat) (v3:Option V),σ=[some (.ref p),some (tx w_),some (.int ((j:Nat):Int)),v3]∧sp[j]?=some (Zad l (w_.take i))∧Inf (w_.take i) l) ⟨rfl,0,_,rfl,by rw[List.take_zero,ZdL];exact h3.first,Inf.nil l⟩ ?_ ?_⟩
  ·rintro i c σ H2 hc ⟨rfl,j,v3,rfl,hj,hI⟩
   have hcm:=hm c (List.mem_of_getElem? hc)
   have et:w_.take (i+1)=w_.take i++[c]:=ZdI hc
   walk_at "rd"
   refine⟨p,dx,_,rfl,s1 _ _ h1,ZaQ (by decide +kernel) (by decide +kernel),p,l,m,sp,j,_,c,rfl,hp.same s1,hj,hcm,fun o ho=>?_⟩
   rcases ho with⟨hb,rfl⟩|⟨hb,j2,hj2,rfl⟩
   ·refine⟨by trivial,?_⟩
    rw[Option.getD_none,decide_eq_true rfl]
    refine iteT (q .non _ s1 (.inl ⟨fun hInf=>?_,rfl⟩))
    have:=Za2.mpr (Zfj hInf (i+1))
    rw[et,ZaL]at this
    exact this hb
   ·refine⟨by trivial,?_⟩
    rw[Option.getD_some,decide_eq_false (fun z=>by cases z)]
    exact iteF ⟨by trivial,j2,_,rfl,by rw[et,ZaL];exact hj2,by rw[et];exact Za2.mp (by rw[ZaL];exact hb)⟩
  ·rintro σ H2 ⟨rfl,j,v3,rfl,hj,hI⟩
   rw[List.take_length]at hj hI
   walk_at "rd?"
   refine Zao ?_
   walk_at "rd"
   exact q _ _ s1 (.inr ⟨hI,j,hj,rfl⟩)
theorem Zl8:FnScope ["self","text","kinds"] ["self","text","kinds"] (Zai s_KG):=by walk_at "sc"
theorem Zkx (T:TL K mg base a tb):FnOk P w K mg base CX0 4 a.g_KG a.e_KG ["self","text","kinds"] (ZlI K a):=by
 refine T.fm_KG.ok Zl8 (fun vs H Q E h=>?_) (fun cdv A outer s H vs Q E hr h=>?_)
 ·obtain⟨_,_,_,_,rfl,_⟩:=h;rfl
 ·have hu64:=hr.units
  have hu1:=ZaM hr
  obtain⟨p,dx,l,m,rfl,hp,ok,q⟩:=h
  refine⟨_,(Zab (ZaU (Zam (Zmz T) (hr.mono (by decide)) rfl T.m_KO T.f_KO.kp T.b_KO .nil Zau (Zaa (pv 2) Zae)))
   (Zab (ZaU (Zam (Zku T) (hr.mono (by decide)) rfl T.m_KR T.f_KR.kp T.b_KR .nil Zau (Zaa (pv 1) (Zaa (pv 2) (Zaa (Zdn rfl T.c_KD) Zae)))))
   (Zab (Zit (pv 0) (pv 2) rfl)
   (Zag (Zit (pv 0) (Zam (Zmu T) (hr.mono (by decide)) rfl T.m_KV T.f_KV.kp T.b_KV .nil Zau (Zaa (pv 1) (Zaa (pv 2) Zae))) rfl))))),?_⟩
  have m4:=ok.m4
  have l40:=ok.l40
  walk_at "rd"
  refine⟨m,rfl,by omega,ok.k,fun H1 s1=>⟨l,m,40,rfl,by omega,ZkS ok,fun H2 s2=>?_⟩⟩
  have hp2:=(s1.trans s2) _ _ hp
  refine⟨p,_,dx,_,rfl,hp2,T.cl_KW,T.n_Machine_own_kinds,by show (0:Nat)<1000;decide,l,m,rfl,l40,m4,ok.mem,Zh8 ok.k,fun pq sp ws ys H3 s3 n3 h3 mo wa nu wl ws_=>?_⟩
  have hp3:=s3 _ _ (Zaf (H:=H2) (a:=p) (o:=.ins a.c_KW dx (putF "own_kinds" (tx m) [])))
  have ne:pq≠p:=fun z=>by rw[z,hp3]at h3;cases h3
  have hq3:∀o,upd H3 p o pq=some (.lst ys):=fun o=>by rw[Zac ne];exact h3
  refine⟨p,_,dx,_,rfl,hp3,T.cl_KW,T.n_Machine_own_rooms,?_,q sp ws _ ⟨⟨dx,pq,ys,Zaf,hq3 _,MachOk.upd mo hp3⟩,⟨dx,pq,ys,Zaf,hq3 _,mo.len,fun i y e=>(wa i y e).other hp3 (fun xs z=>by cases z)⟩,nu,wl,ws_⟩ fun b o hb nb=>?_⟩
  ·show (1:Nat)<1000
   decide
  ·rw[Zac nb]
   exact s3 _ _ (by rw[Zac nb];exact(s1.trans s2) _ _ hb)
theorem Zl5:FnScope ["self","room","letter"] ["self","room","letter"] (Zai s_KJ):=by walk_at "sc"
theorem Zkv (T:TL K mg base a tb):FnOk P w K mg base CX0 5 a.g_KJ a.e_KJ ["self","room","letter"] (ZlF K a):=by
 refine T.fm_KJ.ok Zl5 (fun vs H Q E h=>?_) (fun cdv A outer s H vs Q E hr h=>?_)
 ·obtain⟨_,_,_,_,_,_,_,rfl,_⟩:=h;rfl
 ·have hu64:=hr.units
  have hu1:=ZaM hr
  obtain⟨p,l,m,sp,i,s_,c,rfl,hp,hi,hc,q⟩:=h
  refine⟨_,(Zab (ZaU (Zbl (pv 0) T.cl_KW T.me_KA (ZkA T) (hr.mono (by decide)) T.b_KA .nil Zau (Zaa (pv 1) Zae)))
   (Zab (ZaU (Zam (ZmA T) (hr.mono (by decide)) rfl T.m_KL T.f_KL.kp T.b_KL .nil Zau (Zaa (pv 2) (Zaa (ZbX (K:=K) rfl (pv 0) rfl) Zae))))
   (Zag (Zat (Zbl (pv 0) T.cl_KW T.me_KI (Zkw T) (hr.mono (by decide)) T.b_KI .nil Zau (Zaa (pv 1) (Zaa (pv 2) Zae))))))),?_⟩
  obtain⟨dx,qa,ys,h1,h2,h3⟩:=id hp
  have hi':i<sp.length:=(List.getElem?_eq_some_iff.mp hi).1
  walk_at "rd"
  refine⟨p,dx,_,rfl,h1,ZaQ (by decide +kernel) (by decide +kernel),p,l,m,sp,i,rfl,hp,hi',p,_,dx,_,_,rfl,h1,T.cl_KW,T.n_Machine_own_kinds,ZcD,c,m,rfl,hc,fun H1 s1=>?_⟩
  exact⟨p,dx,_,rfl,s1 _ _ h1,ZaQ (by decide +kernel) (by decide +kernel),p,l,m,sp,i,s_,c,rfl,hp.same s1,hi,hc,fun o ho=>q o H1 s1 ho⟩
theorem ZbD:FnScope ["_law_script","_law_way","_law_kinds_here","_law_text_here","_law_known","_law_due","_law_machine","_law_other","_law_many","_law_room"] ["_law_script"] (Zai Zi3):=by walk_at "sc"
theorem ok_law (T:TL K mg base a tb):FnOk P w K mg base CX0 6 a.f_law a.d_law ["_law_script"] (spLaw K tb):=by
 refine T.f_law.ok ZbD (fun vs H Q E h=>?_) (fun cdv A outer s H vs Q E hr h=>?_)
 ·obtain⟨_,_,rfl,_⟩:=h;rfl
 ·have hu64:=hr.units
  have hu1:=ZaM hr
  obtain⟨b,ns,rfl,hS,h63,tkS,tkF,q⟩:=h
  refine⟨_,(Zab (Zaq (i:=1) ZbD.nd rfl (Or.inl rfl) (Zam (ZkB T) (hr.mono (by decide)) rfl T.m_K2 T.f_K2.kp T.b_K2 .nil Zau (Zaa (pv 0) (Zaa Zaj Zae))))
   (Zab (Zaq (i:=2) ZbD.nd rfl (Or.inl rfl) (Zam (Zms T) (hr.mono (by decide)) rfl T.m_KZ T.f_KZ.kp T.b_KZ .nil Zau (Zaa (pv 1) Zae)))
   (Zak (Zab (Zaq (i:=3) ZbD.nd rfl (Or.inl rfl) (Zam (ZmH T) (hr.mono (by decide)) rfl T.m_K3 T.f_K3.kp T.b_K3 .nil Zau (Zaa (Zam (ZkB T) (hr.mono (by decide)) rfl T.m_K2 T.f_K2.kp T.b_K2 .nil Zau (Zaa (pv 0) (Zaa Zaj Zae))) (Zaa (pv 1) (Zaa (pv 2) (Zaa Zaj Zae))))))
   (Zak (Zab (Zaq (i:=4) ZbD.nd rfl (Or.inl rfl) (Zam (Zmw T) (hr.mono (by decide)) rfl T.m_KS T.f_KS.kp T.b_KS .nil Zau (Zaa (pv 3) Zae)))
   (Zak (Zab (Zaq (i:=5) ZbD.nd rfl (Or.inl rfl) (Zam (Zmt T) (hr.mono (by decide)) rfl T.m_KY T.f_KY.kp T.b_KY .nil Zau (Zaa (pv 3) (Zaa (pv 4) Zae))))
   (Zak (Zab (Zbd (PW.pt (Ze6 (Zaw ZhR (Zal (Zan (K:=K) rfl) rfl T.z_len ZaH (Zaa (pv 3) Zae)) Zaj (Zay _)) (Zdl (Zaw (ZbI (K:=K) rfl hu64) (pv 5) (Zam (ZmF T) (hr.mono (by decide)) rfl T.m_K6 T.f_K6.kp T.b_K6 .nil Zau (Zaa (pv 3) (Zaa (pv 4) Zae))) (Zay _))))) (Zag (Zat Zdo)) ZaB)
   (Zak (Zab (Zaq (i:=6) ZbD.nd rfl (Or.inr rfl) (Zgz T.mk_KW (Zkx T) (hr.mono (by decide)) rfl T.m_KW T.b_KG .nil Zau (Zaa (pv 3) (Zaa (pv 2) Zae))))
   (Zak (Zab (Zaq (i:=7) ZbD.nd rfl (Or.inr rfl) (Zgz T.mk_KW (Zkx T) (hr.mono (by decide)) rfl T.m_KW T.b_KG .nil Zau (Zaa (pv 3) (Zaa (pv 2) Zae))))
   (Zak (Zab (Zaq (i:=8) ZbD.nd rfl (Or.inl rfl) (Ze9 (pv 6) T.cl_KW T.me_KE (Zky T) (hr.mono (by decide)) T.b_KE .nil Zau))
   (Zak (Zab (Zbd (PW.pt (ZeA (Zb8 (Zbt (Zal (ZaY (K:=K) rfl) rfl T.z_isinstance ZaR (Zaa (pv 8) (Zaa (Zcs (v:=.ty "int") rfl T.z_int ZiM rfl) Zae))))) (ZeA (Zaw (ZbI (K:=K) rfl hu64) (pv 8) (Zal (Zan (K:=K) rfl) rfl T.z_len ZaH (Zaa (pv 5) Zae)) (Zay _)) (ZdS (Zaw (ZbI (K:=K) rfl hu64) (Zbv (N:=["_law_room","_law_machine"]) (ix:=[none,some 6]) rfl (Za0 rfl) rfl (Zbe rfl T.z_range (Zaa (pv 8) Zae)) (fun _ _ _ _=>(ZaD (i:=0) (show (["_law_room","_law_machine"]:List Str).Nodup from by decide +kernel) rfl (Or.inl rfl) (Or.inr rfl))) (fun _ _ _ _=>ZbM) (fun _ _ _ _=>(Zbl (pv 1) T.cl_KW T.me_KC (ZmD T) (hr.mono (by decide)) T.b_KC .nil Zau (Zaa (pv 0) Zae)))) (pv 5) (Zay _)))))) (Zag (Zat Zdo)) ZaB)
   (Zak (Zab (ZbE PassesOwn.never rfl (Zbe rfl T.z_range (Zaa (pv 8) Zae)) (ZaD (i:=9) ZbD.nd rfl (Or.inr rfl))
   (Zak (Zab (Zbd (PW.pt (ZeA (Zaw (ZbI (K:=K) rfl hu64) (Zbl (pv 6) T.cl_KW T.me_KB (Zkz T) (hr.mono (by decide)) T.b_KB .nil Zau (Zaa (ZbH (ZaZ (K:=K) rfl) (pv 5) (pv 9) (fun _ _=>rfl)) Zae)) (pv 9) (Zay _)) (ZdS (Zaw (ZbI (K:=K) rfl hu64) (Zbl (pv 7) T.cl_KW T.me_KB (Zkz T) (hr.mono (by decide)) T.b_KB .nil Zau (Zaa (ZbH (ZaZ (K:=K) rfl) (pv 5) (pv 9) (fun _ _=>rfl)) Zae)) (pv 9) (Zay _))))) (Zag (Zat Zdo)) ZaB)
   (Zak (Zag (Zbd (Zaw (ZbI (K:=K) rfl hu64) (Zbv (N:=["_law_letter","_law_machine","_law_room"]) (ix:=[none,some 6,some 9]) rfl (Za0 rfl) rfl (Zcq (pv 2)) (fun _ _ _ _=>(ZaD (i:=0) (show (["_law_letter","_law_machine","_law_room"]:List Str).Nodup from by decide +kernel) rfl (Or.inl rfl) (Or.inr rfl))) (fun _ _ _ _=>ZbM) (fun _ _ _ _=>(Zbl (pv 1) T.cl_KW T.me_KJ (Zkv T) (hr.mono (by decide)) T.b_KJ .nil Zau (Zaa (pv 2) (Zaa (pv 0) Zae))))) (Zbv (N:=["_law_letter","_law_other","_law_room"]) (ix:=[none,some 7,some 9]) rfl (Za0 rfl) rfl (Zcq (pv 2)) (fun _ _ _ _=>(ZaD (i:=0) (show (["_law_letter","_law_other","_law_room"]:List Str).Nodup from by decide +kernel) rfl (Or.inl rfl) (Or.inr rfl))) (fun _ _ _ _=>ZbM) (fun _ _ _ _=>(Zbl (pv 1) T.cl_KW T.me_KJ (Zkv T) (hr.mono (by decide)) T.b_KJ .nil Zau (Zaa (pv 2) (Zaa (pv 0) Zae))))) (Zay _)) (Zag (Zat Zdo)) ZaB))))))
   (Zak (Zag (Zat (Zbm (Za1 (K:=K) rfl hu64) (Ze9 (pv 7) T.cl_KW T.me_KE (Zky T) (hr.mono (by decide)) T.b_KE .nil Zau) (pv 8) (Zay _))))))))))))))))))))))))),?_⟩
  have sz:∀k:Nat,k≤5000→k≤sizeLine:=fun k h=>Nat.le_trans h (by rw[sizeLine_eq];decide)
  rw[←T.e_KY]at tkF
  rw[←T.e_K6]at tkS
  walk_at "rd"
  refine⟨b,ns,0,rfl,hS,by decide,fun way=>⟨_,rfl,fun m mk m1 m4=>Zao ?_⟩⟩
  walk_at "rd"
  refine⟨b,ns,1,rfl,hS,by decide,fun r1=>⟨_,_,m,rfl,m1,m4,fun l l40 lm=>Zao ?_⟩⟩
  have ok:StripOk l m:=⟨mk,m1,m4,l40,lm⟩
  walk_at "rd"
  refine⟨l,rfl,l40,fun pq kvs H1 s1 n1 h1 kn=>Zao ?_⟩
  walk_at "rd"
  refine⟨l,pq,kvs,rfl,l40,h1,kn,tkF.same s1,fun pd ks ds H2 s2 t2 h2 mk2 fr dlen=>Zao ?_⟩
  have q2:H2 pq=some (.dK kvs):=s2.1 _ _ h1 rfl
  have tS2:TblOk H2 a.t_K6 ZgO lqS:=s2.2 _ _ _ (by decide) (tkS.same s1)
  walk_at "rd"
  refine⟨_,_,rfl,ZbZ (by omega),?_⟩
  apply Zfy (C:=fun H3=>H3 pd=some (.lst (ds.map tx)))
  ·intro tail
   refine ite2 (fun _=>?_) (fun _=>iteF (tail H2 h2))
   refine⟨l,pq,kvs,rfl,l40,q2,kn,tS2,fun pd2 ks2 ds2 H3 s3 t3 h3 mk3 fr3 _=>?_⟩
   have e:=Zg6 fr fr3 (fun w=>by rw[mk2,mk3]) fun u v=>by rw[Zcn,ZhS kn]
   rw[←e]at h3
   exact Zdr (.mk (s3.1 _ _ h2 rfl)) (.mk h3) (ZcE _) ⟨false,rfl,iteF (tail H3 (s3.1 _ _ h2 rfl))⟩
  ·intro H3 h3
   clear s2 t2 h2 q2 tS2
   refine Zao ?_
   walk_at "rd"
   intro pr dr npr ndr ner
   have sm:Same H3 (upd (upd H3 dr (.own pr)) pr (.ins a.c_KW dr [])):=fun b o e=>by rw[Zac (Zah e npr),Zac (Zah e ndr)];exact e
   refine⟨pr,dr,l,m,rfl,Zaf,ok,fun sp ws H4 r4 k4=>⟨rfl,Zao ?_⟩⟩
   have s4:Same H3 H4:=fun b o e=>k4 b o (sm b o e) (Zah e npr)
   clear sm k4
   walk_at "rd"
   intro pr2 dr2 npr2 ndr2 ner2
   have sm:Same H4 (upd (upd H4 dr2 (.own pr2)) pr2 (.ins a.c_KW dr2 [])):=fun b o e=>by rw[Zac (Zah e npr2),Zac (Zah e ndr2)];exact e
   refine⟨pr2,dr2,l,m,rfl,Zaf,ok,fun sp2 ws2 H5 r5' k5=>⟨rfl,Zao ?_⟩⟩
   have s5:Same H4 H5:=fun b o e=>k5 b o (sm b o e) (Zah e npr2)
   clear sm k5
   have r5:=r4.same s5
   have l5:H5 pd=some (.lst (ds.map tx)):=s5 _ _ (s4 _ _ h3)
   have ew:ds=ws:=Numb.one r5.num lm mk2 (fun u v _ _=>Zcn u v) fr
   have ew2:ds=ws2:=Numb.one r5'.num lm mk2 (fun u v _ _=>Zcn u v) fr
   subst ew
   subst ew2
   have es:sp2=sp:=r5'.spots.trans r5.spots.symm
   subst es
   have nd:=r5.mach.nd
   have hsl:=r5.len
   have hspt:=r5.spt
   have hst:∀w∈ds,Inf w l:=r5.num.st
   obtain⟨dx,qa,ys0,p1,p2,p3⟩:=id r5.mach
   obtain⟨dx2,qa2,ys2,p21,p22,p23⟩:=id r5'.mach
   walk_at "rd"
   refine⟨pr,dx,_,rfl,p1,ZaQ (by decide +kernel) (by decide +kernel),pr,l,m,sp2,rfl,r5.mach,?_⟩
   walk_at "rd?"
   refine Zao ?_
   walk_at "rd"
   refine⟨_,_,_,_,true,rfl,rfl,.ty (.pl (.int _)),Zfg,?_⟩
   refine iteF ⟨_,_,rfl,.inl ⟨_,.mk l5,rfl⟩,?_⟩
   rw[List.length_map,hsl]
   refine Zdq (.inr ⟨_,rfl⟩) ⟨false,rfl,iteF ⟨_,rfl,by omega,by omega,?_⟩⟩
   rw[Int.toNat_natCast]
   refine CompRun.rangeL (fun i=>tx (ds.getD i [])) (by omega) ?_ ?_
   ·intro i H6 Q6 hi s6 q6
    have hw:ds[i]?=some ds[i]:=List.getElem?_eq_getElem (by omega)
    rw[show (0:Int)+(i:Int)=((i:Nat):Int) by omega]
    walk_at "rd"
    refine⟨pr,dx,_,rfl,s6 _ _ p1,ZaQ (by decide +kernel) (by decide +kernel),pr,l,m,sp2,ds,i,_,rfl,r5.same s6,hw,?_⟩
    have:=q6 H6 (Same.refl _)
    rw[List.getD_eq_getElem?_getD,hw]at this
    exact this
   ·intro p6 H6 s6 n6 l6
    have e6:(List.range sp2.length).map (fun i=>tx (ds.getD i []))=ds.map tx:=by
     apply List.ext_getElem (by simp[hsl])
     intro i h1 h2
     have hi:i<ds.length:=by simpa using h2
     simp[List.getD_eq_getElem?_getD,List.getElem?_eq_getElem hi]
    rw[e6]at l6
    refine Zdr (.mk l6) (.mk (s6 _ _ l5)) (ZcE _) ⟨false,rfl,iteF (Zao ?_)⟩
    walk_at "rd"
    refine⟨_,rfl,by omega,by omega,?_⟩
    rw[Int.toNat_natCast]
    refine ForRun.range (fun i σ H'=>∃v9,σ=[some (.ref b),some (.int way),some (tx m),some (tx l),some (.ref pq),some (.ref pd),some (.ref pr),some (.ref pr2),some (.int (sp2.length:Nat)),v9]∧Same H5 H') ⟨_,rfl,s6⟩ ?_ ?_
    ·rintro i σ H7 hi ⟨v9,rfl,s7⟩
     rw[show (0:Int)+(i:Int)=((i:Nat):Int) by omega]
     have hw:ds[i]?=some ds[i]:=List.getElem?_eq_getElem (by omega)
     have hs:sp2[i]?=some (Zad l ds[i]):=hspt i _ hw
     have hin:Inf ds[i] l:=hst _ (List.mem_of_getElem? hw)
     have wl:ds[i].length≤60:=by obtain⟨k,hk⟩:=hin;have:=hk.1;omega
     have wm:∀c∈ds[i],c∈m:=fun c hc=>by
      obtain⟨k,hk⟩:=hin
      have:=hk.2
      rw[←this]at hc
      exact lm c (List.mem_of_mem_drop (List.mem_of_mem_take hc))
     have one:∀v,Zlh l sp2 ds[i] v→v=.int (i:Nat):=fun v rv=>by
      rcases rv with⟨n,_⟩|⟨_,j,hj,e⟩
      ·exact absurd hin n
      ·rw[e,Zcb nd hj hs]
     walk_at "rd"
     refine Zao ?_
     walk_at "rd"
     refine⟨pr,dx,_,rfl,s7 _ _ p1,ZaQ (by decide +kernel) (by decide +kernel),pd,_,_,_,rfl,rfl,.mk (s7 _ _ l5),ZiN hw,pr,l,m,sp2,ds[i],rfl,r5.mach.same s7,wl,wm,fun v H8 s8 rv=>?_⟩
     rw[one v rv]
     have s58:=s7.trans s8
     refine Zdq (.inr ⟨_,rfl⟩) ⟨false,rfl,iteF ⟨pr2,dx2,_,rfl,s58 _ _ p21,ZaQ (by decide +kernel) (by decide +kernel),pd,_,_,_,rfl,rfl,.mk (s58 _ _ l5),ZiN hw,pr2,l,m,sp2,ds[i],rfl,r5'.mach.same s58,wl,wm,fun v9 H9 s9 rv9=>?_⟩⟩
     rw[one v9 rv9]
     have s59:=s58.trans s9
     refine Zdq (.inr ⟨_,rfl⟩) ⟨false,rfl,iteF (Zao ?_)⟩
     walk_at "rd"
     have hm:∀k,k<m.length→m.getD k 0∈m:=fun k hk=>by
      rw[List.getD_eq_getElem?_getD,List.getElem?_eq_getElem hk];exact List.getElem_mem hk
     refine⟨m,rfl,CompRun.text (fun _=>true) (fun k=>wayV l sp2 (Zad l ds[i]) (m.getD k 0)) (by omega) (fun k H' Q' _ _ q=>q H' (Same.refl _)) ?_ ?_⟩
     ·intro k HA QA hk _ sA qA
      walk_at "rd"
      refine⟨pr,dx,_,rfl,sA _ _ (s59 _ _ p1),ZaQ (by decide +kernel) (by decide +kernel),pr,l,m,sp2,i,_,_,rfl,r5.mach.same (s59.trans sA),hs,hm k hk,fun o HB sB wy=>?_⟩
      rw[Zf8 nd wy]
      exact qA HB sB
     ·intro pA HA sA nA lA
      refine⟨m,rfl,CompRun.text (fun _=>true) (fun k=>wayV l sp2 (Zad l ds[i]) (m.getD k 0)) (by omega) (fun k H' Q' _ _ q=>q H' (Same.refl _)) ?_ ?_⟩
      ·intro k HB QB hk _ sB qB
       walk_at "rd"
       refine⟨pr2,dx2,_,rfl,sB _ _ (sA _ _ (s59 _ _ p21)),ZaQ (by decide +kernel) (by decide +kernel),pr2,l,m,sp2,i,_,_,rfl,r5'.mach.same (s59.trans (sA.trans sB)),hs,hm k hk,fun o HC sC wy=>?_⟩
       rw[Zf8 nd wy]
       exact qB HC sC
      ·intro pB HB sB nB lB
       refine Zdr (.mk (sB _ _ lA)) (.mk lB) (Zjw fun v hv=>?_) ⟨false,rfl,iteF ⟨_,rfl,s59.trans (sA.trans sB)⟩⟩
       obtain⟨k,_,rfl⟩:=List.mem_map.mp hv
       exact Zf7 _ _ _ _
    ·rintro σ H7 ⟨v9,rfl,s7⟩
     walk_at "rd?"
     refine Zao ?_
     walk_at "rd"
     refine⟨pr2,dx2,_,rfl,s7 _ _ p21,ZaQ (by decide +kernel) (by decide +kernel),pr2,l,m,sp2,rfl,r5'.mach.same s7,.inl ⟨rfl,?_⟩⟩
     rw[if_neg Bool.false_ne_true,decide_eq_true rfl]
     exact q H7
end
end Pk12
namespace PySem.W.Fast
def tw10023544755817011562:=0
def tw10082510708684584105:=0
def tw10098616946644446546:=0
def tw1016784575162359742:=0
def tw1020441538282124699:=0
def tw10238147178180886929:=0
def tw10292873331074158756:=0
def tw10302849641479032617:=0
def tw10306645023710474850:=0
def tw10367170452598190481:=0
def tw10377452810989960694:=0
def tw10426384026369289144:=0
def tw10503144860609664365:=0
def tw10536290684020968273:=0
def tw10660902638691247811:=0
def tw10676976473472761707:=0
def tw1069710774028323538:=0
def tw10706304769797674610:=0
def tw10728153770057682093:=0
def tw10790299528796783892:=0
def tw1083811916295592864:=0
def tw10987975502841334511:=0
def tw1100719683916823050:=0
def tw11012438942583473678:=0
def tw11021293372593375482:=0
def tw1124497706506350907:=0
def tw11274188283402770606:=0
def tw11458202386593244554:=0
def tw11568601934464875050:=0
def tw11579667855686751047:=0
def tw11612034608341648408:=0
def tw11674320867603392225:=0
def tw11703271959788170608:=0
def tw11723855001869724612:=0
def tw11787538791784780744:=0
def tw11789093231065128740:=0
def tw11856092324476217059:=0
def tw12055028514402508078:=0
def tw12085646945490224034:=0
def tw12189334032434955114:=0
def tw12223254355884457033:=0
def tw1226107972063828479:=0
def tw12464123793089304147:=0
def tw12516497239295180114:=0
def tw1254296452106970865:=0
def tw12579797785274250619:=0
def tw12684355818929598153:=0
def tw12731995134466228987:=0
def tw12805856064001425941:=0
def tw12890918762891202483:=0
def tw12918024330976144363:=0
def tw12960118943757752040:=0
def tw12993297971995869272:=0
def tw13101341064833979378:=0
def tw13175426106356956269:=0
def tw13229348010536071786:=0
def tw13281787474346312377:=0
def tw13295415862896429822:=0
def tw13398770208682651893:=0
def tw13539766669898194921:=0
def tw13553301034396958222:=0
def tw13565252613992413775:=0
def tw1358099445930169455:=0
def tw1361731823521347330:=0
def tw13632401723699551395:=0
def tw1366415381066103988:=0
def tw13715398148473735652:=0
def tw13916986127540406283:=0
def tw13923679167588997231:=0
def tw13952394357815272459:=0
def tw13957895942483128674:=0
def tw14113222474722973426:=0
def tw14116563584627868556:=0
def tw14119321250349593398:=0
def tw14151857235843487012:=0
def tw14171497342785131031:=0
def tw14272713371592963198:=0
def tw14427631921439210273:=0
def tw14480192506822239279:=0
def tw14634255178157102026:=0
def tw14699615460666605375:=0
def tw14736301700110446581:=0
def tw14801009740861243046:=0
def tw14907604293605522723:=0
def tw14956752275974069300:=0
def tw15004059756803554993:=0
def tw15007496819646880350:=0
def tw15114474551199132450:=0
def tw1512749594824730366:=0
def tw15195158940785290360:=0
def tw15234899810680231901:=0
def tw15235069606061907605:=0
def tw15280675067468989169:=0
def tw15373181673641736612:=0
def tw15496242994864898712:=0
def tw15545704716021032263:=0
def tw15559649141336805375:=0
def tw15629143164530304502:=0
def tw15689278982854520154:=0
def tw15745553647067727567:=0
def tw15770072748670455012:=0
def tw15816223986502032767:=0
def tw16029506483691799620:=0
def tw16059810431281773726:=0
def tw16090271789571372091:=0
def tw16154374690281218129:=0
def tw16370902250674361147:=0
def tw16389580034572612719:=0
def tw16495820221993162488:=0
def tw16663412213075206405:=0
def tw1666758076208413501:=0
def tw16669715931756491591:=0
def tw16681261485597669258:=0
def tw16691453084739489034:=0
def tw16694870910319671483:=0
def tw1676295302959698302:=0
def tw16764755051930933481:=0
def tw16772328705653769299:=0
def tw16779815212863356572:=0
def tw16851506353050414737:=0
def tw1687345624486300178:=0
def tw16948188666853015938:=0
def tw16976604162538182885:=0
def tw17000402672608662436:=0
def tw17104901126253225315:=0
def tw17182931906495319661:=0
def tw17184167896960059838:=0
def tw17212695688132981402:=0
def tw17238716282552649980:=0
def tw17274952404435925202:=0
def tw17297991082608612051:=0
def tw17370953247252016677:=0
def tw17380353770798983645:=0
def tw17431564545894427297:=0
def tw17530851157065741398:=0
def tw17593337574101083123:=0
def tw17596992657813208371:=0
def tw17644351987329081916:=0
def tw17742889755097774995:=0
def tw17752295959458544822:=0
def tw17770540238708922302:=0
def tw17837458007340601328:=0
def tw17965742715322230156:=0
def tw18056426990467898065:=0
def tw18159058586213866275:=0
def tw18174882181764962501:=0
def tw18305373931068813859:=0
def tw18341668102306909370:=0
def tw18368777578222931375:=0
def tw18375179171923818126:=0
def tw1841788438622743547:=0
def tw188113326611238503:=0
def tw1917085303457725163:=0
def tw1932881817187692619:=0
def tw1960871315324344414:=0
def tw1975323116292281553:=0
def tw2022848603214980714:=0
def tw204398427584985488:=0
def tw2094267657737049563:=0
def tw2103012710481388637:=0
def tw2125793239950723953:=0
def tw2144790316131977924:=0
def tw217346975259171001:=0
def tw22847354222484705:=0
def tw2301995738254283582:=0
def tw2415442049417944457:=0
def tw2455105129728678119:=0
def tw2507976347014070530:=0
def tw2544107016042473019:=0
def tw2973005563309648439:=0
def tw3009991919505848377:=0
def tw3024332889846746047:=0
def tw3047313985290018000:=0
def tw3073064509109922804:=0
def tw3133926386819607640:=0
def tw3166191268608574931:=0
def tw3283185634369324009:=0
def tw3459112852490839499:=0
def tw3475108692944896693:=0
def tw3490389553328303184:=0
def tw3620351830609563826:=0
def tw3696109234374427407:=0
def tw3796447843990647407:=0
def tw3939298607542592864:=0
def tw4007053348870393631:=0
def tw4106370321325322434:=0
def tw4149827525914064235:=0
def tw4155257335956952513:=0
def tw4180804743613956708:=0
def tw4243758918029347307:=0
def tw4286153052757517034:=0
def tw4478680704909631593:=0
def tw449110478521649045:=0
def tw4557319694372760371:=0
def tw4562960129622421687:=0
def tw4608213345476595705:=0
def tw4685104314374336852:=0
def tw4861523800684900652:=0
def tw4877645721632073162:=0
def tw4887509405579121161:=0
def tw4952232948500684659:=0
def tw5003598323539083015:=0
def tw5114030448363725077:=0
def tw5120317376528751532:=0
def tw5122591051207053415:=0
def tw5152644729018591592:=0
def tw533867690808643039:=0
def tw5394249590235951173:=0
def tw5495203214753155635:=0
def tw5508004058017735872:=0
def tw5515401019974658258:=0
def tw555376745009803727:=0
def tw5605762852305562596:=0
def tw5674821966321143129:=0
def tw5707518800145496596:=0
def tw5713777099245261037:=0
def tw5727003073950181884:=0
def tw5794294564919462070:=0
def tw5829021301975812738:=0
def tw610142257826203540:=0
def tw6157765788953370188:=0
def tw6172931768656268122:=0
def tw6220160900002028137:=0
def tw6307754397183111524:=0
def tw6373159583275466569:=0
def tw6381443348788053389:=0
def tw6393872284668066278:=0
def tw6420472492397717276:=0
def tw6484938628879197869:=0
def tw6581279402215803532:=0
def tw663640134562546703:=0
def tw6752167558943920583:=0
def tw6843478970894554750:=0
def tw6891230405467622546:=0
def tw6906679594642454295:=0
def tw6951297437615263903:=0
def tw7115702121806046072:=0
def tw7157402415887272680:=0
def tw7311141285891468364:=0
def tw7371550870616980843:=0
def tw7373139968514024351:=0
def tw7422639058070710448:=0
def tw7630134232086892109:=0
def tw7725566154300719050:=0
def tw7753554954007519540:=0
def tw7755724690661314355:=0
def tw7823901306253185203:=0
def tw7847982745329140201:=0
def tw7849258545724074910:=0
def tw7864424246608352330:=0
def tw7881464893413700453:=0
def tw7890447662270535286:=0
def tw7899301120372745225:=0
def tw7930453095034869823:=0
def tw8076502555478523006:=0
def tw8179349978773508878:=0
def tw819306201743388824:=0
def tw8216478223971062465:=0
def tw8244866679846887460:=0
def tw8334181818125407397:=0
def tw8334924466938576628:=0
def tw8418511987069891955:=0
def tw8473746778945333758:=0
def tw8591742770300769051:=0
def tw8641074675009442109:=0
def tw8644996210711426794:=0
def tw8650724931571457196:=0
def tw867015522397194660:=0
def tw8715503954824193135:=0
def tw8779041729832899908:=0
def tw8867891414076153760:=0
def tw8874905189637058441:=0
def tw8881379006541314792:=0
def tw8928613299407267239:=0
def tw9004364978765663440:=0
def tw9137998272824074461:=0
def tw9151986714253885955:=0
def tw9268685017995032120:=0
def tw9270157365175714254:=0
def tw938132032153450678:=0
def tw9386385836455721402:=0
def tw9433197617575245879:=0
def tw9436230937035025287:=0
def tw9487672186292267013:=0
def tw9578809533107733824:=0
def tw9583964966630378011:=0
def tw9592337185418760721:=0
def tw9626199818914392932:=0
def tw9678148048693128499:=0
def tw9729749434649460728:=0
def tw9738872329447059290:=0
def tw9758971468536271427:=0
def tw9774913783972693211:=0
def tw9824657537958756050:=0
def tw9963386056967875708:=0
def tw9973617699701975675:=0
def tw9976898363172747353:=0
end PySem.W.Fast
open PySem PySem.W PyProof.Rows
set_option maxRecDepth 100000 in
set_option maxHeartbeats 0 in
theorem PySem.Challenge.cw_lackword_k12_rooms_numbered_holds : PySem.Challenge.rw_lackword_k12_rooms_numbered.Holds := by
 w_on;o_law;k_head;(case hw=>w_witness2)
 k_fill
 refine L2.walk_ofT (l:=PySem.Challenge.rw_lackword_k12_rooms_numbered) (n:=63) (k:=6) (x:="_law_script") (CX:=L2.CX0) (sp:=Pk12.spLaw) ["_law_sorts","_law_firsts"] rfl (by decide) rfl ⟨rfl,by decide,by decide⟩ (fun w h Y=>PySem.W.km_in_of Y) (fun _=>by kernel_rfl) (by kernel_rfl) ?F ?S ?C
 case F=>
  intro w mg fa h tb KX G hmg hT
  have T:∃t,Pk12.Txt (L2.KOf KX) mg t∧t.t_K6=(tb "_law_sorts").2∧t.k_K6=(tb "_law_sorts").1∧t.t_KY=(tb "_law_firsts").2∧t.k_KY=(tb "_law_firsts").1:=by
   dsimp only[L2.KOf]
   apply Pk12.txt_mk (t_K6:=(tb "_law_sorts").2) (k_K6:=(tb "_law_sorts").1) (t_KY:=(tb "_law_firsts").2) (k_KY:=(tb "_law_firsts").1) KX G
   iterate 23 k_is
   iterate 7 (apply L2.mg_mk;iterate 4 k_is)
   iterate 23 (apply L2.dg_mk;iterate 4 k_is)
   iterate 17 k_is
  obtain⟨t,T,et_K6,ek_K6,et_KY,ek_KY⟩:=T
  have e0:=hmg.symm.trans T.m_law
  cases e0
  have cd_K6:t.d_K6.code=.ref t.k_K6:=by
   obtain⟨o,e1,e2⟩:=T.f_K6.at KX
   rw[ek_K6]
   exact(hT "_law_sorts" (by simp)).codeEq T.m_K6 e1 e2
  have cd_KY:t.d_KY.code=.ref t.k_KY:=by
   obtain⟨o,e1,e2⟩:=T.f_KY.at KX
   rw[ek_KY]
   exact(hT "_law_firsts" (by simp)).codeEq T.m_KY e1 e2
  refine' ⟨_,?b,fun base kb nb hL=>Pk12.ok_law (tb:=tb) { T with L_sorts:=by rw[et_K6,ek_K6];exact hL "_law_sorts" (by simp),cd_K6:=cd_K6,e_K6:=et_K6,L_firsts:=by rw[et_KY,ek_KY];exact hL "_law_firsts" (by simp),cd_KY:=cd_KY,e_KY:=et_KY }⟩
  exact T.bl
 case S=>exact fun K tb H a ns hl hP hS=>⟨a,ns,rfl,hS,hl,L2.tbl_new (hP "_law_sorts" (by simp)),L2.tbl_new (hP "_law_firsts" (by simp)),fun _=>rfl⟩
 case C=>exact fun _ _ _ _ z=>z
#print axioms PySem.Challenge.cw_lackword_k12_rooms_numbered_holds
