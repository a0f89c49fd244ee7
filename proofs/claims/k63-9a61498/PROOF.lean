import PyProof.Rows.All
import Wide.All
import OpenK.AllK
import Wide.FinOn
import Lean
import PyProof.EqAt
import PyProof.EqKinds
import PyProof.TupleCall
import PyProof.SetRoads
import PyProof.Rows.SetFrom
import PyProof.StrWalks
import PyProof.FactsAll.set
import PyProof.FactsAll.subtypes_3
import PyProof.CollectWalk
import PyProof.CollectStr
import PyProof.StationsW
import PyProof.RulesAs
import KE.KTryMore
import PyProof.NsDelKeeps
import PyProof.ListStr
import PyProof.TupleOfStr
import PyProof.ConsumeS
import KE.KEqDict
import PyProof.DictWalks
import PyProof.DictUpdate
import KE.KLam
import PyProof.DictDisplay
import PyProof.ListRange
import PyProof.Rows.StrNews2
import PyProof.Rows.Range3
import KE.KDictLaws
import KE.KDictList
import PyProof.DictRoadsH
import KE.KDictSum
import PyProof.DictItems
import PyProof.DictItemsLoops
import KE.KPairComp
import PySem.Challenge.RW_lackword_k63_the_strip_of_its_list
set_option Elab.async false
set_option linter.all false
set_option maxRecDepth 100000
namespace L2
open PySem PySem.Spec PyProof.Rows
abbrev Key:=Sum Int Str
def ZdC:Key→Value→Bool
 | .inl k,v=>Value.isInt k v
 | .inr x,v=>Value.isStrOf x v
def keyH (w:World):Key→Int
 | .inl k=>hashInt k
 | .inr x=>hashStr w x
theorem ZaG:∀ {k:Key} {v:Value},ZdC k v=true→(∃i t,k=Sum.inl i∧v=Value.int i t)∨(∃x t,k=Sum.inr x∧v=Value.str x t)
 | .inl i,v,h=>by
  obtain⟨t,e⟩:=Value.isInt_shape (k:=i) (v:=v) h
  exact .inl ⟨i,t,rfl,e⟩
 | .inr x,v,h=>by
  obtain⟨t,e⟩:=Value.isStrOf_shape (x:=x) (v:=v) h
  exact .inr ⟨x,t,rfl,e⟩
theorem Zhm (i:Int)(t:Tok):ZdC (.inl i) (.int i t)=true:=by simp[ZdC,Value.isInt]
theorem Zhl (x:Str)(t:Tok):ZdC (.inr x) (.str x t)=true:=by simp[ZdC,Value.isStrOf]
theorem Zln (a b:Int):decide ((Sum.inl a:Key)=Sum.inl b)=(a == b):=by
 by_cases e:a=b
 ·subst e;simp
 ·have h:¬(Sum.inl a:Key)=Sum.inl b:=fun q=>e (Sum.inl.inj q)
  rw[decide_eq_false h]
  exact(beq_eq_false_iff_ne.mpr e).symm
theorem Zlk (a b:Str):decide ((Sum.inr a:Key)=Sum.inr b)=decide (a=b):=by
 by_cases e:a=b
 ·subst e;simp
 ·have h:¬(Sum.inr a:Key)=Sum.inr b:=fun q=>e (Sum.inr.inj q)
  rw[decide_eq_false h,decide_eq_false e]
theorem Zlm (a:Int)(b:Str):decide ((Sum.inl a:Key)=Sum.inr b)=false:=decide_eq_false (fun q=>nomatch q)
theorem Zll (a:Str)(b:Int):decide ((Sum.inr a:Key)=Sum.inl b)=false:=decide_eq_false (fun q=>nomatch q)
def Zao (prog:Program)(w:World):PySem.KeyKind prog w Key where
 is:=ZdC
 hash:=keyH w
 inj:=fun v a b ha hb=>by
  rcases ZaG ha with⟨i,t,rfl,rfl⟩|⟨x,t,rfl,rfl⟩
  ·rcases ZaG hb with⟨j,u,rfl,e⟩|⟨y,u,rfl,e⟩
   ·injection e with e1 _;rw[e1]
   ·exact nomatch e
  ·rcases ZaG hb with⟨j,u,rfl,e⟩|⟨y,u,rfl,e⟩
   ·exact nomatch e
   ·injection e with e1 _;rw[e1]
 byValue:=fun k v h=>by
  rcases ZaG h with⟨i,t,rfl,rfl⟩|⟨x,t,rfl,rfl⟩<;>rfl
 pyHash:=fun hv h=>by
  rcases ZaG hv with⟨i,t,rfl,rfl⟩|⟨x,t,rfl,rfl⟩
  ·exact wpAny_pyHash_int h
  ·exact wpAny_pyHash_str h
 eqBool:=fun hu hv h=>by
  rcases ZaG hu with⟨i,t,rfl,rfl⟩|⟨x,t,rfl,rfl⟩
  ·rcases ZaG hv with⟨j,u,rfl,rfl⟩|⟨y,u,rfl,rfl⟩
   ·rw[Zln]at h;exact wpAny_eqBool_int h
   ·rw[Zlm]at h;exact SeqAt.EqAt.int_str i t y u _ _ _ _ h
  ·rcases ZaG hv with⟨j,u,rfl,rfl⟩|⟨y,u,rfl,rfl⟩
   ·rw[Zll]at h;exact SeqAt.EqAt.str_int x t j u _ _ _ _ h
   ·rw[Zlk]at h;exact wpAny_eqBool_str h
 «strs»:=fun k x t v h=>by
  rcases ZaG h with⟨i,u,rfl,e⟩|⟨y,u,rfl,e⟩
  ·exact nomatch e
  ·injection e with e1 _
   subst e1
   cases v<;>rfl
theorem ZeZ (prog:Program)(w:World)(i:Int)(t:Tok):(Zao prog w).is (.inl i) (.int i t)=true:=Zhm i t
theorem Zcu (prog:Program)(w:World)(x:Str)(t:Tok):(Zao prog w).is (.inr x) (.str x t)=true:=Zhl x t
inductive V where
 | non | bl (b:Bool) | int (i:Int) | str (x:Str) | byt (b:Array UInt8) | flt (b:UInt64) | ref (a:Addr) | ty (n:String)
 deriving DecidableEq
def RelV:V→Value→Prop
 | .non,u=>u=Value.none
 | .bl b,u=>u=Value.bool b
 | .int i,u=>∃t,u=Value.int i t
 | .str x,u=>∃t,u=Value.str x t
 | .byt b,u=>∃t,u=Value.bytes b t
 | .flt b,u=>∃t,u=Value.float b t
 | .ref a,u=>u=Value.ref a
 | .ty n,u=>u=Value.type n
abbrev Vals:List V→List Value→Prop:=Paired RelV
theorem Vals.length {xs:List V}{us:List Value}(r:Vals xs us):xs.length=us.length:=Paired.length r
theorem Vals.get:∀ {xs:List V} {us:List Value} {i:Nat} {x:V},Vals xs us→xs[i]?=some x→∃u,us[i]?=some u∧RelV x u
 | _,_,_,_,.nil,e=>by simp at e
 | _,_,0,_,.cons r _,e=>by simp at e;subst e;exact⟨_,rfl,r⟩
 | _,_,i+1,x,.cons _ t,e=>by
  obtain⟨u,h1,h2⟩:=Vals.get (i:=i) (x:=x) t (by simpa using e)
  exact⟨u,by simpa using h1,h2⟩
theorem Vals.set {x:V}{u:Value}(r:RelV x u):∀ {xs:List V} {us:List Value} (i:Nat),Vals xs us→Vals (xs.set i x) (us.set i u)
 | _,_,_,.nil=>.nil
 | _,_,0,.cons _ t=>.cons r t
 | _,_,i+1,.cons q t=>.cons q (Vals.set r i t)
theorem Vals.append:∀ {xs ys:List V} {us ws:List Value},Vals xs us→Vals ys ws→Vals (xs++ys) (us++ws)
 | _,_,_,_,.nil,s=>s
 | _,_,_,_,.cons r t,s=>.cons r (Vals.append t s)
theorem Vals.take:∀ {xs:List V} {us:List Value} (n:Nat),Vals xs us→Vals (xs.take n) (us.take n)
 | _,_,0,_=>.nil
 | _,_,_+1,.nil=>.nil
 | _,_,n+1,.cons r t=>.cons r (Vals.take n t)
theorem Vals.drop:∀ {xs:List V} {us:List Value} (n:Nat),Vals xs us→Vals (xs.drop n) (us.drop n)
 | _,_,0,r=>r
 | _,_,_+1,.nil=>.nil
 | _,_,n+1,.cons _ t=>Vals.drop n t
def RelO:Option V→Option Value→Prop
 | some v,some u=>RelV v u
 | none,none=>True
 | _,_=>False
def KV {κ:Type}:List (κ×V)→List (κ×Value)→Prop:=Paired fun (p:κ×V) (q:κ×Value)=>p.1=q.1∧RelV p.2 q.2
def kV:Key→V
 | .inl i=>.int i
 | .inr x=>.str x
inductive HO where
 | lst (xs:List V)
 | tup (xs:List V)
 | dK (kvs:List (Key×V)) | dT (kvs:List (List Key×V))
 | set (S:Int→Bool) (n:Nat)
 | ins (C dx:Addr) (fs:List (Str×V))
 | own (x:Addr)
 | xd (fs:List (Str×V))
 | met (f x:Addr)
 | rng (lo hi:Int)
 | frz (o:Obj) (u:HO)
 | tbl (ps:Array Value)
 | ext (φ:Heap→Prop)
abbrev Hp:=Addr→Option HO
def upd (H:Hp)(a:Addr)(o:HO):Hp:=fun b=>if b=a then some o else H b
theorem Zad {H:Hp}{a:Addr}{o:HO}:upd H a o a=some o:=by unfold upd;rw[if_pos rfl]
theorem Zab {H:Hp}{a b:Addr}{o:HO}(h:b≠a):upd H a o b=H b:=by unfold upd;rw[if_neg h]
theorem Zni {H:Hp}{a b:Addr}{o u:HO}(h:H a=some o)(h':H b=some u)(d:o≠u):a≠b:=by
 intro e;subst e;rw[h]at h';exact d (Option.some.inj h')
theorem Zaf {H:Hp}{a b:Addr}{o:HO}(h:H a=some o)(h':H b=none):a≠b:=by
 intro e;subst e;rw[h]at h';cases h'
section
variable (P:Program)(w:World)
def ObjOk (H:Hp)(h:Heap)(a:Addr):HO→Prop
 | .lst xs=>xs.length≤sizeLine∧∃(its:List Value) (n:Nat),Vals xs its∧h.get? a=some { cls:=.type "list",data:=.seq its.toArray n }
 | .tup xs=>xs.length≤sizeLine∧∃its:List Value,Vals xs its∧IsTup h a its.toArray
 | .dK kvs=>kvs.length≤sizeLine∧(a == sysModules)=false∧∃vs,KV kvs vs∧h.DictOf (Zao P w) a vs
 | .dT kvs=>kvs.length≤sizeLine∧(a == sysModules)=false∧∃xs:List (List Key×Addr×Value),
   Paired (fun (p:List Key×V) (q:List Key×Addr×Value)=>p.1=q.1∧H q.2.1=some (.tup (p.1.map kV))∧RelV p.2 q.2.2) kvs xs ∧
   ∃o es ep,h.get? a=some o∧o.ExactDict∧o.data=.dict es ep∧es.toList=xs.map (entryOfKey (tupleKind (Zao P w)))∧(xs.map (·.1)).Nodup
 | .set S n=>h.SetOf (intKind P w) a S n
 | .ins C dx fs=>H dx=some (.own a)∧fs.length≤1000∧dx≠a∧h.get? a=some (PySem.W.instObj C dx) ∧
   ∃mA,h.Ns1 dx mA∧(∀f,RelO (fs.lookup f) (mA f))∧PySem.Within mA (fs.map (·.1))
 | .own _=>∃o,h.get? a=some o
 | .xd fs=>∃mA,h.Ns1 a mA∧∀f,RelO (fs.lookup f) (mA f)
 | .rng lo hi=>∃t u v,h.get? a=some { cls:=.type "range",data:=.fields #[.int lo t,.int hi u,.int 1 v] }
 | .frz o u=>h.get? a=some o∧ObjOk H h a u
 | .tbl ps=>h.get? a=some { cls:=.none,data:=.fields ps }
 | .met f x=>h.get? a=some (PySem.W.methodObj (.ref f) (.ref x))
 | .ext φ=>φ h∧(∃o,h.get? a=some o)∧∀h1 h2:Heap,φ h1→(∀o,h1.get? a=some o→h2.get? a=some o)→φ h2
def HOk (H:Hp)(h:Heap):Prop:=∀a o,H a=some o→ObjOk P w H h a o
end
section
variable {P:Program}{w:World}{H H':Hp}{h h':Heap}{a:Addr}{o:HO}
theorem ObjOk.lt (x:ObjOk P w H h a o):a<h.objs.size:=by
 cases o with
 | lst xs=>obtain⟨_,_,_,_,e⟩:=x;exact Heap.lt_size e
 | tup xs=>obtain⟨_,_,_,p⟩:=x;exact p.lt
 | dK kvs=>obtain⟨_,_,_,_,o,_,_,e,_⟩:=x;exact Heap.lt_size e
 | dT kvs=>obtain⟨_,_,_,_,o,_,_,e,_⟩:=x;exact Heap.lt_size e
 | set S n=>obtain⟨o,_,_,_,e,_⟩:=x;exact Heap.lt_size e
 | ins C dx fs=>obtain⟨_,_,_,e,_⟩:=x;exact Heap.lt_size e
 | own y=>obtain⟨_,e⟩:=x;exact Heap.lt_size e
 | xd fs=>obtain⟨_,⟨_,_,_,e,_⟩,_⟩:=x;exact Heap.lt_size e
 | rng lo hi=>obtain⟨_,_,_,e⟩:=x;exact Heap.lt_size e
 | frz ob u=>obtain⟨e,_⟩:=x;exact Heap.lt_size e
 | tbl ps=>exact Heap.lt_size (show h.get? a=some _ from x)
 | met f y=>exact Heap.lt_size (show h.get? a=some _ from x)
 | ext φ=>obtain⟨_,⟨_,e⟩,_⟩:=x;exact Heap.lt_size e
theorem Paired.mapP {α β:Type}{F G:α→β→Prop}:∀ {l₁:List α} {l₂:List β},Paired F l₁ l₂→(∀a b,F a b→G a b)→Paired G l₁ l₂
 | _,_,.nil,_=>.nil
 | _,_,.cons r t,f=>.cons (f _ _ r) (Paired.mapP t f)
theorem ObjOk.stay (x:ObjOk P w H h a o)(k:∀b u,(b=a∨H b=some (.own a))→h.get? b=some u→h'.get? b=some u)
  (ho:∀b,H b=some (.own a)→H' b=some (.own a)) (ht:∀b xs,H b=some (.tup xs)→H' b=some (.tup xs)):ObjOk P w H' h' a o:=by
 induction o with
 | lst xs=>obtain⟨z,its,n,r,e⟩:=x;exact⟨z,its,n,r,k _ _ (.inl rfl) e⟩
 | tup xs=>obtain⟨z,its,r,ob,e,c⟩:=x;exact⟨z,its,r,ob,k _ _ (.inl rfl) e,c⟩
 | dK kvs=>obtain⟨z,y,vs,r,ob,es,ep,e,c⟩:=x;exact⟨z,y,vs,r,ob,es,ep,k _ _ (.inl rfl) e,c⟩
 | dT kvs=>
  obtain⟨z,y,xs,r,ob,es,ep,e,c⟩:=x
  exact⟨z,y,xs,Paired.mapP r fun p q z=>⟨z.1,ht _ _ z.2.1,z.2.2⟩,ob,es,ep,k _ _ (.inl rfl) e,c⟩
 | set S n=>obtain⟨ob,es,ep,t,e,c⟩:=x;exact⟨ob,es,ep,t,k _ _ (.inl rfl) e,c⟩
 | ins C dx fs=>
  obtain⟨d,z,ne,e,mA,⟨od,es,ep,e2,c⟩,r⟩:=x
  exact⟨ho _ d,z,ne,k _ _ (.inl rfl) e,mA,⟨od,es,ep,k _ _ (.inr d) e2,c⟩,r⟩
 | own y=>obtain⟨ob,e⟩:=x;exact⟨ob,k _ _ (.inl rfl) e⟩
 | xd fs=>obtain⟨mA,⟨od,es,ep,e,c⟩,r⟩:=x;exact⟨mA,⟨od,es,ep,k _ _ (.inl rfl) e,c⟩,r⟩
 | rng lo hi=>obtain⟨t,u,v,e⟩:=x;exact⟨t,u,v,k _ _ (.inl rfl) e⟩
 | frz ob u ih=>obtain⟨e,q⟩:=x;exact⟨k _ _ (.inl rfl) e,ih q⟩
 | tbl ps=>
  have e:h.get? a=some { cls:=.none,data:=.fields ps }:=x
  show h'.get? a=some { cls:=.none,data:=.fields ps }
  exact k a _ (.inl rfl) e
 | met f y=>
  have e:h.get? a=some (PySem.W.methodObj (.ref f) (.ref y)):=x
  show h'.get? a=some (PySem.W.methodObj (.ref f) (.ref y))
  exact k a _ (.inl rfl) e
 | ext φ=>obtain⟨p,⟨o,e⟩,st⟩:=x;exact⟨st _ _ p fun o q=>k _ _ (.inl rfl) q,⟨o,k _ _ (.inl rfl) e⟩,st⟩
theorem HOk.lt (x:HOk P w H h)(e:H a=some o):a<h.objs.size:=(x a o e).lt
theorem HOk.fresh (x:HOk P w H h)(e:h.objs.size≤a):H a=none:=by
 cases q:H a with
 | none=>rfl
 | some u=>exact absurd (Nat.lt_of_lt_of_le (x.lt q) e) (Nat.lt_irrefl _)
theorem HOk.kept (x:HOk P w H h)(k:∀b u,h.get? b=some u→h'.get? b=some u):HOk P w H h':=fun a o e=>
 (x a o e).stay (fun b u _ q=>k b u q) (fun _ q=>q) fun _ _ q=>q
theorem HOk.laid (x:HOk P w H h)(k:∀b u,h.get? b=some u→h'.get? b=some u)(hp:h.objs.size≤a)(new:ObjOk P w (upd H a o) h' a o):HOk P w (upd H a o) h':=fun b u e=>by
 have hn:=x.fresh hp
 by_cases hb:b=a
 ·subst hb;rw[Zad]at e;cases e;exact new
 ·rw[Zab hb]at e
  exact(x b u e).stay (fun c v _ q=>k c v q) (fun c q=>by rw[Zab (Zaf q hn)];exact q) fun c xs q=>by rw[Zab (Zaf q hn)];exact q
end
def Rd (H:Hp)(a:Addr)(u:HO):Prop:=H a=some u∨∃o,H a=some (.frz o u)
theorem Rd.ok {P:Program}{w:World}{H:Hp}{h:Heap}{a:Addr}{u:HO}(r:Rd H a u)(x:HOk P w H h):ObjOk P w H h a u:=by
 rcases r with r | ⟨o,r⟩
 ·exact x a u r
 ·obtain⟨_,q⟩:=x a _ r
  exact q
def Mut:Option HO→Prop
 | some (.lst _)=>True
 | some (.dK _)=>True
 | some (.dT _)=>True
 | some (.set _ _)=>True
 | some (.ins _ _ _)=>True
 | some (.ext _)=>True
 | _=>False
section
variable {P:Program}{w:World}{H:Hp}{h h':Heap}{x e:Addr}{o':HO}
theorem HOk.write (ok:HOk P w H h)(mu:Mut (H x))(he:e=x∨H e=some (.own x))(k:∀b u,b≠e→h.get? b=some u→h'.get? b=some u)(heo:∃u,h'.get? e=some u)
  (new:ObjOk P w (upd H x o') h' x o'):HOk P w (upd H x o') h':=fun b u q=>by
 have nown:∀c y,H c=some (.own y)→c≠x:=fun c y r z=>by subst z;rw[r]at mu;exact mu
 have ntup:∀c xs,H c=some (.tup xs)→c≠x:=fun c xs r z=>by subst z;rw[r]at mu;exact mu
 by_cases hb:b=x
 ·subst hb;rw[Zad]at q;cases q;exact new
 ·rw[Zab hb]at q
  by_cases hbe:b=e
  ·have q':H b=some (.own x):=by
    rcases he with z | z
    ·exact absurd (hbe.trans z) hb
    ·rw[hbe];exact z
   rw[q]at q';cases q'
   obtain⟨v,hv⟩:=heo
   exact⟨v,by rw[hbe];exact hv⟩
  ·refine(ok b u q).stay (fun c v hc r=>k c v ?_ r) (fun c r=>by rw[Zab (nown c b r)];exact r) fun c xs r=>by rw[Zab (ntup c xs r)];exact r
   rcases hc with rfl | hc
   ·exact hbe
   ·rintro rfl
    rcases he with z | z
    ·exact nown c b hc z
    ·rw[hc]at z;cases z;exact hb rfl
end
structure Un (fs ex:List Addr)(H H':Hp)(h h':Heap):Prop where
 keep:∀b o,h.get? b=some o→H b=none→b∉fs→b∉ex→h'.get? b=some o
 slot:∀b o,h.get? b=some o→H b=none→b∈fs→b∉ex→∃sl,h'.get? b=some { o with slots:=sl }
 free:∀b o,h.get? b=some o→H b=none→b∉ex→H' b=none
 there:∀b o,h.get? b=some o→b∉ex→∃o',h'.get? b=some o'
 tups:∀b xs,H b=some (.tup xs)→H' b=some (.tup xs)
 frzs:∀b o u,H b=some (.frz o u)→H' b=some (.frz o u)
 tbls:∀b ps,H b=some (.tbl ps)→∃more,H' b=some (.tbl (ps++more))
section
variable {fs fs' ex ex':List Addr}{H H1 H2:Hp}{h h1 h2 h':Heap}{a x e:Addr}{o:HO}
theorem Un.any (u:Un fs ex H H1 h h1){b:Addr}{ob:Obj}(q:h.get? b=some ob)(n:H b=none)(hx:b∉ex):∃sl,h1.get? b=some { ob with slots:=sl }:=by
 by_cases hb:b∈fs
 ·exact u.slot b ob q n hb hx
 ·exact⟨ob.slots,u.keep b ob q n hb hx⟩
theorem Un.trans (a:Un fs ex H H1 h h1)(b:Un fs ex H1 H2 h1 h2):Un fs ex H H2 h h2 where
 keep:=fun c ob q n hc hx=>b.keep c ob (a.keep c ob q n hc hx) (a.free c ob q n hx) hc hx
 slot:=fun c ob q n hc hx=>by
  obtain⟨sl,e1⟩:=a.slot c ob q n hc hx
  obtain⟨sl',e2⟩:=b.slot c _ e1 (a.free c ob q n hx) hc hx
  exact⟨sl',e2⟩
 free:=fun c ob q n hx=>by
  obtain⟨o',e1⟩:=a.there c ob q hx
  exact b.free c o' e1 (a.free c ob q n hx) hx
 there:=fun c ob q hx=>by
  obtain⟨o',e1⟩:=a.there c ob q hx
  exact b.there c o' e1 hx
 tups:=fun c xs q=>b.tups c xs (a.tups c xs q)
 frzs:=fun c ob xs q=>b.frzs c ob xs (a.frzs c ob xs q)
 tbls:=fun c ps q=>by
  obtain⟨m1,e1⟩:=a.tbls c ps q
  obtain⟨m2,e2⟩:=b.tbls c _ e1
  exact⟨m1++m2,by rw[e2,Array.append_assoc]⟩
theorem Un.kept (k:∀b u,h.get? b=some u→h'.get? b=some u):Un fs ex H H h h':=
 ⟨fun b ob q _ _ _=>k b ob q,fun b ob q _ _ _=>⟨ob.slots,k b ob q⟩,fun _ _ _ n _=>n,fun b ob q _=>⟨ob,k b ob q⟩,fun _ _ q=>q,fun _ _ _ q=>q,fun _ ps q=>⟨#[],by rw[q];simp⟩⟩
theorem Un.refl:Un fs ex H H h h:=Un.kept fun _ _ q=>q
theorem Un.laid (k:∀b u,h.get? b=some u→h'.get? b=some u)(hp:h.objs.size≤a)(hn:H a=none):Un fs ex H (upd H a o) h h' where
 keep:=fun b u q _ _ _=>k b u q
 slot:=fun b u q _ _ _=>⟨u.slots,k b u q⟩
 free:=fun b u q n _=>by rw[Zab (Nat.ne_of_lt (Nat.lt_of_lt_of_le (Heap.lt_size q) hp))];exact n
 there:=fun b u q _=>⟨u,k b u q⟩
 tups:=fun b xs q=>by rw[Zab (Zaf q hn)];exact q
 frzs:=fun b u xs q=>by rw[Zab (Zaf q hn)];exact q
 tbls:=fun b ps q=>⟨#[],by rw[Zab (Zaf q hn),q];simp⟩
theorem Un.write (mu:Mut (H x))(he:e=x∨H e=some (.own x))(k:∀b u,b≠e→h.get? b=some u→h'.get? b=some u)(heo:∃u,h'.get? e=some u):Un fs ex H (upd H x o) h h':=by
 have hx:∀b,H b=none→b≠x:=fun b n z=>by subst z;rw[n]at mu;exact mu
 have hb:∀b,H b=none→b≠e:=fun b n z=>by
  subst z
  rcases he with r | r
  ·exact hx b n r
  ·rw[n]at r;cases r
 have hm:∀b u,H b=some u→¬Mut (some u)→b≠x:=fun b u q nm z=>by subst z;rw[q]at mu;exact nm mu
 refine⟨fun b u q n _ _=>k b u (hb b n) q,fun b u q n _ _=>⟨u.slots,k b u (hb b n) q⟩,fun b u q n _=>by rw[Zab (hx b n)];exact n,fun b u q _=>?_,
  fun b xs q=>by rw[Zab (hm b _ q fun z=>z)];exact q,fun b u xs q=>by rw[Zab (hm b _ q fun z=>z)];exact q,fun b ps q=>⟨#[],by rw[Zab (hm b _ q fun z=>z),q];simp⟩⟩
 by_cases hbe:b=e
 ·subst hbe;exact heo
 ·exact⟨u,k b u hbe q⟩
end
def trk (h:Heap)(H:Hp):List Addr:=(List.range h.objs.size).filter fun a=>(H a).isSome
def hidT (h:Heap)(H:Hp):Heap:=PySem.W.hideAll h (trk h H)
theorem Zem (h:Heap)(H:Hp):(hidT h H).objs.size=h.objs.size:=PySem.W.hideAll_size _ _
theorem ZfM {h:Heap}{H:Hp}{b:Addr}{o:Obj}(e:h.get? b=some o)(n:H b=none):(hidT h H).get? b=some o:=
 PySem.W.hideAll_get _ e fun hm=>by
  have q:(H b).isSome=true:=(List.mem_filter.mp hm).2
  rw[n]at q;simp at q
theorem Zg7 {h:Heap}{H:Hp}{b:Addr}{o:Obj}(e:(hidT h H).get? b=some o):h.get? b=some o∧H b=none:=by
 have e':h.get? b=some o:=PySem.W.of_hideAll (trk h H) e
 refine⟨e',?_⟩
 cases q:H b with
 | none=>rfl
 | some x=>
  have hm:b∈trk h H:=List.mem_filter.mpr ⟨List.mem_range.mpr (Heap.lt_size e'),by simp[q]⟩
  have z:(hidT h H).get? b=none:=PySem.W.hideAll_none (trk h H) hm
  rw[z]at e;cases e
def Zke (g h:Heap)(L:Addr):List (Addr×Obj):=(List.range h.objs.size).filterMap fun a=>if a=L∨(g.get? a).isSome=true then none else (h.get? a).map fun o=>(a,o)
def rest (g h:Heap)(L d:Addr):List (Addr×Obj):=(Zke g h L).filter fun p=>decide (p.1≠d)
structure Mod (K:PySem.W.Frag)(mg:Str→Option Value)(base:Heap):Prop where
 kin:K.In base
 glob:base.Ns mainGlobals mg
 blt:∃mb,base.Ns builtinsNs mb∧∀x:Str,x≠"__name__"→mb x=bootBuiltins x
 nolimit:base.NoLimit
structure Cx where
 prog:Program
 w:World
 K:PySem.W.Frag
 mg:Str→Option Value
 base:Heap
 A:Around
 N:List Str
 s₀:Shared
 H₀:Hp
 env:Env
 outer:List Env
 stack:List Env
 ex:List Addr
 fn:Str→Bool
 calm:Bool
 pn:List (Addr×Obj)
 xe:Value→Shared→Prop
def frs (l:List Env):List Addr:=l.filterMap (·.frame)
abbrev Cx.fs (X:Cx):List Addr:=frs X.outer
def Vis (sc:Scope)(x:Str):Prop:=sc.names.lookup x=some .local∨sc.names.lookup x=some .cell∨sc.names.lookup x=some .free
def Loc (sc:Scope)(x:Str):Prop:=sc.names.lookup x=some .local∨sc.names.lookup x=some .cell
def Look (env:Env)(h:Heap)(m:Str→Option Value)(x:Str)(u:Value):Prop:=
 (env.kindOf x=some .local∧m x=some u)∨((env.kindOf x=some .cell∨env.kindOf x=some .free)∧∃c,env.cells.lookup x=some c∧h.IsCell c (some u))
structure Cx.Ok (X:Cx):Prop where
 mod:Mod X.K X.mg X.base
 kind:X.env.scope.kind=.function
 glob:X.env.globals=mainGlobals
 blt:X.env.builtins=builtinsNs
 above:X.s₀.heap.objs.size≤X.env.locals
 inj:∀x y c,X.env.cells.lookup x=some c→X.env.cells.lookup y=some c→x=y
 has:∀x,(X.env.kindOf x=some .cell∨X.env.kindOf x=some .free)→∃c,X.env.cells.lookup x=some c
 cab:∀x c,X.fn x=true→X.env.cells.lookup x=some c→X.s₀.heap.objs.size≤c
 hd:X.calm=true→X.A.handled=none
 frames:X.A.frames=some X.stack
 stk:X.stack=X.outer∨(X.stack=X.env::X.outer∧X.env.frame=some X.env.locals)
 exf:∀b∈X.ex,b≠X.env.locals∧∀x c,X.env.cells.lookup x=some c→c≠b
 bs:∀b o,X.base.get? b=some o→X.s₀.heap.get? b=some o∧X.H₀ b=none
 bsz:X.base.objs.size≤X.s₀.heap.objs.size
 noex:∀b o,X.base.get? b=some o→b∉X.ex
 exfs:∀b∈X.ex,b∉X.fs
 funs:X.s₀.heap.FunFrames X.base X.outer
 frf:∀b∈X.fs,X.H₀ b=none
structure Inv (X:Cx)(pins:List (Addr×Obj))(σ:List (Option V))(H:Hp)(s:Shared):Prop where
 ok:X.Ok
 os:s.os=X.s₀.os
 bare:AllBare s.gens
 base:Un X.fs X.ex X.H₀ H X.s₀.heap s.heap
 loc:∃m,s.heap.Ns X.env.locals m∧∀(i:Nat) (x:Str) (v:V),X.N[i]?=some x→σ[i]?=some (some v)→Vis X.env.scope x→∃u,RelV v u∧Look X.env s.heap m x u
 cell:∀x c,X.env.cells.lookup x=some c→∃v,s.heap.IsCell c v
 free:H X.env.locals=none
 freeC:∀x c,X.env.cells.lookup x=some c→H c=none
 pin:∀p∈X.pn++pins,s.heap.get? p.1=some p.2∧H p.1=none∧p.1≠X.env.locals∧p.1∉X.fs∧∀v,p.2.data≠.cell v
 hok:HOk X.prog X.w H s.heap
 len:σ.length=X.N.length
section
variable {X:Cx}{pins:List (Addr×Obj)}{σ:List (Option V)}{H H':Hp}{s:Shared}{h':Heap}
theorem Cx.Ok.nofr (ok:X.Ok){b:Addr}{o:Obj}(e:X.base.get? b=some o):b∉X.fs:=fun hb=>by
 have:=(ok.funs.mem hb).1
 rw[e]at this;cases this
theorem Inv.bs (I:Inv X pins σ H s):∀b o,X.base.get? b=some o→s.heap.get? b=some o∧H b=none:=fun b o e=>
 ⟨I.base.keep b o (I.ok.bs b o e).1 (I.ok.bs b o e).2 (I.ok.nofr e) (I.ok.noex b o e),I.base.free b o (I.ok.bs b o e).1 (I.ok.bs b o e).2 (I.ok.noex b o e)⟩
theorem Inv.bk (I:Inv X pins σ H s):∀b o,X.base.get? b=some o→s.heap.get? b=some o:=fun b o e=>(I.bs b o e).1
theorem Inv.mod (I:Inv X pins σ H s):Mod X.K X.mg X.base:=I.ok.mod
theorem Inv.kIn (I:Inv X pins σ H s):X.K.In s.heap:=I.ok.mod.kin.keeps I.bk
theorem Inv.lt (I:Inv X pins σ H s):X.env.locals<s.heap.objs.size:=let ⟨_,hn,_⟩:=I.loc;hn.lt
theorem Inv.sz (I:Inv X pins σ H s):X.s₀.heap.objs.size≤s.heap.objs.size:=Nat.le_trans I.ok.above (Nat.le_of_lt I.lt)
theorem Inv.nofs (I:Inv X pins σ H s){a:Addr}(h:s.heap.objs.size≤a):a∉X.fs:=fun hb=>by
 obtain⟨_,o,ho,_⟩:=I.ok.funs.mem hb
 exact absurd (Nat.lt_of_lt_of_le (Heap.lt_size ho) (Nat.le_trans I.sz h)) (Nat.lt_irrefl _)
theorem Inv.cne (I:Inv X pins σ H s):∀x c,X.env.cells.lookup x=some c→c≠X.env.locals:=fun x c e z=>by
 obtain⟨v,o,ho,hd⟩:=I.cell x c e
 obtain⟨m,⟨o',es,ep,ho',hd',_⟩,_⟩:=I.loc
 rw[z,ho']at ho;cases ho;rw[hd']at hd;cases hd
theorem Inv.funs (I:Inv X pins σ H s):s.heap.FunFrames X.base X.outer:=by
 have all:∀(l:List Env),(∀b∈frs l,b∈X.fs)→X.s₀.heap.FunFrames X.base l→s.heap.FunFrames X.base l:=by
  intro l
  induction l with
  | nil=>intro _ _;trivial
  | cons env r ih=>
   intro hs hl
   obtain⟨hk,⟨L,o,hf,hn,ho,hd⟩,hr⟩:=hl
   have hL:L∈X.fs:=hs L (by unfold frs;rw[List.filterMap_cons,hf];exact List.mem_cons_self)
   obtain⟨sl,e⟩:=I.base.slot L o ho (I.ok.frf L hL) hL fun z=>I.ok.exfs L z hL
   exact⟨hk,⟨L,_,hf,hn,e,hd⟩,ih (fun b hb=>hs b (by unfold frs;rw[List.filterMap_cons,hf];exact List.mem_cons_of_mem _ hb)) hr⟩
 exact all X.outer (fun _ hb=>hb) I.ok.funs
theorem Inv.stack (I:Inv X pins σ H s):s.heap.FunFrames X.base X.stack:=by
 rcases I.ok.stk with e | ⟨e,hf⟩
 ·rw[e];exact I.funs
 ·rw[e]
  obtain⟨m,hn,_⟩:=I.loc
  refine .cons (by rw[I.ok.kind];decide) hf hn ?_ I.funs
  exact Heap.get?_none_of_le (Nat.le_trans I.ok.bsz I.ok.above)
theorem Inv.stkSub (I:Inv X pins σ H s):∀b∈frs X.stack,b∈X.env.locals::X.fs:=fun b hb=>by
 rcases I.ok.stk with e | ⟨e,hf⟩
 ·rw[e]at hb;exact List.mem_cons_of_mem _ hb
 ·rw[e]at hb
  unfold frs at hb
  rw[List.filterMap_cons,hf]at hb
  exact hb
theorem Inv.stkFree (I:Inv X pins σ H s):∀b∈frs X.stack,H b=none:=fun b hb=>by
 rcases List.mem_cons.mp (I.stkSub b hb) with e | hb
 ·rw[e];exact I.free
 ·obtain⟨_,o,ho,_⟩:=I.ok.funs.mem hb
  exact I.base.free b o ho (I.ok.frf b hb) fun z=>I.ok.exfs b z hb
theorem Inv.step {g':Array GenState}{t':Nat}{d':Drawn}{ch:List Addr}(I:Inv X pins σ H s)
  (hch:∀b∈ch,(b∈X.ex∨X.s₀.heap.objs.size≤b)∧b≠X.env.locals∧(∀x c,X.env.cells.lookup x=some c→c≠b)∧∀p∈X.pn++pins,p.1≠b)
  (keep:∀b o,b≠X.env.locals→b∉X.fs→b∉ch→s.heap.get? b=some o→H b=none→h'.get? b=some o)
  (slot:∀b o,b≠X.env.locals→b∈X.fs→b∉ch→s.heap.get? b=some o→H b=none→∃sl,h'.get? b=some { o with slots:=sl }) (free:∀b o,b∉ch→s.heap.get? b=some o→H b=none→H' b=none)
  (there:∀b o,b∉ch→s.heap.get? b=some o→∃o',h'.get? b=some o')
  (tups:∀b xs,H b=some (.tup xs)→H' b=some (.tup xs)) (frzs:∀b o u,H b=some (.frz o u)→H' b=some (.frz o u)) (tbls:∀b ps,H b=some (.tbl ps)→∃more,H' b=some (.tbl (ps++more)))
  (ns:∀m,s.heap.Ns X.env.locals m→h'.Ns X.env.locals m) (hok:HOk X.prog X.w H' h') (hg:AllBare g'):
  Inv X pins σ H' { s with heap:=h',gens:=g',drawn:=d',toks:=t' }:=by
 have neL:∀b o,X.s₀.heap.get? b=some o→b≠X.env.locals:=fun b o e=>Nat.ne_of_lt (Nat.lt_of_lt_of_le (Heap.lt_size e) I.ok.above)
 have neC:∀b o,X.s₀.heap.get? b=some o→b∉X.ex→b∉ch:=fun b o e hx hb=>by
  rcases (hch b hb).1 with z | z
  ·exact hx z
  ·exact absurd (Nat.lt_of_lt_of_le (Heap.lt_size e) z) (Nat.lt_irrefl _)
 have cellK:∀x c,X.env.cells.lookup x=some c→∀v,s.heap.IsCell c v→h'.IsCell c v:=fun x c e v ⟨o,ho,hd⟩=>by
  have nch:c∉ch:=fun z=>(hch c z).2.2.1 x c e rfl
  by_cases hc:c∈X.fs
  ·obtain⟨sl,q⟩:=slot c o (I.cne x c e) hc nch ho (I.freeC x c e)
   exact⟨_,q,hd⟩
  ·exact⟨o,keep c o (I.cne x c e) hc nch ho (I.freeC x c e),hd⟩
 refine⟨I.ok,I.os,hg,⟨fun b o e n hb hx=>?_,fun b o e n hb hx=>?_,fun b o e n hx=>?_,fun b o e hx=>?_,fun b xs e=>tups b xs (I.base.tups b xs e),fun b o xs e=>frzs b o xs (I.base.frzs b o xs e),fun b ps e=>?_⟩,?_,fun x c e=>?_,?_,fun x c e=>?_,fun p hp=>?_,hok,I.len⟩
 ·exact keep b o (neL b o e) hb (neC b o e hx) (I.base.keep b o e n hb hx) (I.base.free b o e n hx)
 ·obtain⟨sl,e1⟩:=I.base.slot b o e n hb hx
  obtain⟨sl',e2⟩:=slot b _ (neL b o e) hb (neC b o e hx) e1 (I.base.free b o e n hx)
  exact⟨sl',e2⟩
 ·obtain⟨o',e1⟩:=I.base.there b o e hx
  exact free b o' (neC b o e hx) e1 (I.base.free b o e n hx)
 ·obtain⟨o',e1⟩:=I.base.there b o e hx
  exact there b o' (neC b o e hx) e1
 ·obtain⟨m1,e1⟩:=I.base.tbls b ps e
  obtain⟨m2,e2⟩:=tbls b _ e1
  exact⟨m1++m2,by rw[e2,Array.append_assoc]⟩
 ·obtain⟨m,hn,hl⟩:=I.loc
  refine⟨m,ns m hn,fun i x v e1 e2 e3=>?_⟩
  obtain⟨u,r,l⟩:=hl i x v e1 e2 e3
  refine⟨u,r,?_⟩
  rcases l with l | ⟨k,c,e,z⟩
  ·exact .inl l
  ·exact .inr ⟨k,c,e,cellK x c e _ z⟩
 ·obtain⟨v,z⟩:=I.cell x c e
  exact⟨v,cellK x c e v z⟩
 ·obtain⟨m,⟨o,_,_,ho,_⟩,_⟩:=I.loc
  exact free _ o (fun z=>(hch _ z).2.1 rfl) ho I.free
 ·obtain⟨v,o,ho,hd⟩:=I.cell x c e
  exact free c o (fun z=>(hch c z).2.2.1 x c e rfl) ho (I.freeC x c e)
 ·obtain⟨e,n,ne,nf,d⟩:=I.pin p hp
  have nch:p.1∉ch:=fun z=>(hch p.1 z).2.2.2 p hp rfl
  exact⟨keep p.1 p.2 ne nf nch e n,free p.1 p.2 nch e n,ne,nf,d⟩
theorem Inv.un {t':Nat}(I:Inv X pins σ H s)(u:Un X.fs [] H H' s.heap h')(hok:HOk X.prog X.w H' h'):Inv X pins σ H' { s with heap:=h',toks:=t' }:=by
 obtain⟨m,⟨o,es,ep,ho,r⟩,_⟩:=id I.loc
 obtain⟨sl,hL⟩:=u.any ho I.free (by simp)
 exact I.step (g':=s.gens) (d':=s.drawn) (ch:=[]) (fun _ z=>nomatch z) (fun b o _ hb _ e n=>u.keep b o e n hb (by simp)) (fun b o _ hb _ e n=>u.slot b o e n hb (by simp)) (fun b o _ e n=>u.free b o e n (by simp)) (fun b o _ e=>u.there b o e (by simp)) u.tups u.frzs u.tbls (fun m' hm=>by
  obtain⟨o',es',ep',ho',r'⟩:=hm
  rw[ho]at ho';cases ho'
  exact⟨_,es',ep',hL,r'⟩) hok I.bare
theorem Inv.call {g':Array GenState}{t':Nat}{d':Drawn}{ch:List Addr}(I:Inv X pins σ H s)(u:Un (frs X.stack) ch H H' s.heap h')(hok:HOk X.prog X.w H' h')(hg:AllBare g')
  (hch:∀b∈ch,(b∈X.ex∨X.s₀.heap.objs.size≤b)∧b≠X.env.locals∧(∀x c,X.env.cells.lookup x=some c→c≠b)∧∀p∈X.pn++pins,p.1≠b):
  Inv X pins σ H' { s with heap:=h',gens:=g',drawn:=d',toks:=t' }:=by
 obtain⟨m,⟨o,es,ep,ho,r⟩,_⟩:=id I.loc
 obtain⟨sl,hL⟩:=u.any ho I.free fun z=>(hch _ z).2.1 rfl
 exact I.step (ch:=ch) hch (fun b o hL hb hc e n=>u.keep b o e n (fun z=>(List.mem_cons.mp (I.stkSub b z)).elim hL hb) hc) (fun b o _ _ hc e n=>u.any e n hc) (fun b o hc e n=>u.free b o e n hc) (fun b o hc e=>u.there b o e hc) u.tups u.frzs u.tbls (fun m' hm=>by
  obtain⟨o',es',ep',ho',r'⟩:=hm
  rw[ho]at ho';cases ho'
  exact⟨_,es',ep',hL,r'⟩) hok hg
theorem Inv.turned {t':Nat}{it:Addr}(I:Inv X pins σ H s)(k:∀b o,b≠it→s.heap.get? b=some o→h'.get? b=some o)(hn:H it=none)(hL:it≠X.env.locals)
  (h1:it∈X.ex∨X.s₀.heap.objs.size≤it) (h2:∀x c,X.env.cells.lookup x=some c→c≠it) (h3:∀p∈X.pn++pins,p.1≠it):Inv X pins σ H { s with heap:=h',toks:=t' }:=by
 have nit:∀b u,H b=some u→b≠it:=fun b u e z=>by rw[z,hn]at e;cases e
 refine I.step (g':=s.gens) (d':=s.drawn) (ch:=[it]) (fun b hb=>?_) (fun b o _ _ hc e _=>k b o (fun z=>hc (by simp[z])) e) (fun b o _ _ hc e _=>⟨o.slots,k b o (fun z=>hc (by simp[z])) e⟩) (fun _ _ _ _ n=>n)
  (fun b o hc e=>⟨o,k b o (fun z=>hc (by simp[z])) e⟩) (fun _ _ e=>e) (fun _ _ _ e=>e) (fun b ps e=>⟨#[],by rw[e];simp⟩) (fun m hm=>?_) (fun b u e=>?_) I.bare
 ·have e:b=it:=by simpa using hb
  subst e
  exact⟨h1,hL,h2,h3⟩
 ·obtain⟨o,es,ep,ho,r⟩:=hm
  exact⟨o,es,ep,k _ o (Ne.symm hL) ho,r⟩
 ·refine(I.hok b u e).stay (fun c v hc q=>k c v ?_ q) (fun _ q=>q) fun _ _ q=>q
  rcases hc with z | z
  ·rw[z];exact nit b u e
  ·exact nit c _ z
theorem Inv.tok (I:Inv X pins σ H s)(t:Nat):Inv X pins σ H { s with toks:=t }:=I.un (h':=s.heap) (t':=t) Un.refl I.hok
theorem Inv.kept {t':Nat}(I:Inv X pins σ H s)(k:∀b u,s.heap.get? b=some u→h'.get? b=some u):Inv X pins σ H { s with heap:=h',toks:=t' }:=I.un (Un.kept k) (I.hok.kept k)
theorem Inv.laid {a:Addr}{o:HO}{t':Nat}(I:Inv X pins σ H s)(k:∀b u,s.heap.get? b=some u→h'.get? b=some u)(hp:s.heap.objs.size≤a)(new:ObjOk X.prog X.w (upd H a o) h' a o):
  Inv X pins σ (upd H a o) { s with heap:=h',toks:=t' }:=I.un (Un.laid k hp (I.hok.fresh hp)) (I.hok.laid k hp new)
theorem Inv.write {x e:Addr}{o:HO}{t':Nat}(I:Inv X pins σ H s)(mu:Mut (H x))(he:e=x∨H e=some (.own x))(k:∀b u,b≠e→s.heap.get? b=some u→h'.get? b=some u)(heo:∃u,h'.get? e=some u)
  (new:ObjOk X.prog X.w (upd H x o) h' x o):Inv X pins σ (upd H x o) { s with heap:=h',toks:=t' }:=I.un (Un.write mu he k heo) (I.hok.write mu he k heo new)
theorem Inv.pins_of {pins':List (Addr×Obj)}(I:Inv X pins σ H s)(h:∀p∈pins',s.heap.get? p.1=some p.2∧H p.1=none∧p.1≠X.env.locals∧p.1∉X.fs∧∀v,p.2.data≠.cell v):Inv X pins' σ H s:=
 ⟨I.ok,I.os,I.bare,I.base,I.loc,I.cell,I.free,I.freeC,fun p hp=>(List.mem_append.mp hp).elim (fun z=>I.pin p (List.mem_append_left _ z)) (h p),I.hok,I.len⟩
theorem ZfC {N:List Str}(hN:N.Nodup){i j:Nat}{x:Str}(a:N[i]?=some x)(b:N[j]?=some x):i=j:=by
 obtain⟨h1,e1⟩:=List.getElem?_eq_some_iff.mp a
 obtain⟨h2,e2⟩:=List.getElem?_eq_some_iff.mp b
 exact(List.getElem_inj hN).mp (e1.trans e2.symm)
theorem ZdX {M:Model}{A:Around}{E:Value→Shared→Prop}{i:Nat}{x:Str}{v:V}{u:Value}{Q:Unit→Shared→Prop}(I:Inv X pins σ H s)(hN:X.N.Nodup)(hi:X.N[i]?=some x)(hx:Loc X.env.scope x)(r:RelV v u)
  (h:∀s',Inv X pins (σ.set i (some v)) H s'→(∃a,Heap.SameBut a s.heap s'.heap∧(a=X.env.locals∨X.env.cells.lookup x=some a))→Q () s') (hf:X.fn x=true∨X.env.scope.names.lookup x=some .local:=by first | exact .inl rfl | exact .inr rfl | assumption):wpAny M A (storeName X.env x u) Q E s:=by
 obtain⟨m,hn,hl⟩:=id I.loc
 have hcls:(X.env.scope.kind == .class || (X.env.scope.kind == .module&&X.env.locals != X.env.globals))=false:=by rw[I.ok.kind];rfl
 have hiσ:i<σ.length:=by rw[I.len];exact(List.getElem?_eq_some_iff.mp hi).1
 have cne:=I.cne
 have tracked:∀ {a:Addr} {h':Heap},(∃o,s.heap.get? a=some o∧H a=none)→Heap.SameBut a s.heap h'→HOk X.prog X.w H h':=fun {a h'} ha hs b ob e=>by
  obtain⟨_,_,hfree⟩:=ha
  refine(I.hok b ob e).stay (fun c w' hc q=>(hs.2 c ?_).trans q) (fun _ q=>q) fun _ _ q=>q
  rintro rfl
  rcases hc with rfl | hc
  ·rw[hfree]at e;cases e
  ·rw[hfree]at hc;cases hc
 rcases hx with hk | hk
 ·refine wpAny_storeName_local hk hn (fun h' hn' hs=>?_) hcls
  obtain⟨oL,_,_,hoL,_⟩:=id hn
  refine h _ ⟨I.ok,I.os,I.bare,⟨fun b o e n hb hx=>?_,fun b o e n hb hx=>?_,I.base.free,fun b o e hx=>?_,I.base.tups,I.base.frzs,I.base.tbls⟩,⟨_,hn',fun j y v' e1 e2 e3=>?_⟩,fun y c e=>?_,I.free,I.freeC,fun p hp=>?_,tracked ⟨oL,hoL,I.free⟩ hs,by simpa using I.len⟩ ⟨_,hs,.inl rfl⟩
  ·exact(hs.2 b (Nat.ne_of_lt (Nat.lt_of_lt_of_le (Heap.lt_size e) I.ok.above))).trans (I.base.keep b o e n hb hx)
  ·obtain⟨sl,e1⟩:=I.base.slot b o e n hb hx
   exact⟨sl,(hs.2 b (Nat.ne_of_lt (Nat.lt_of_lt_of_le (Heap.lt_size e) I.ok.above))).trans e1⟩
  ·obtain⟨o',e1⟩:=I.base.there b o e hx
   exact⟨o',(hs.2 b (Nat.ne_of_lt (Nat.lt_of_lt_of_le (Heap.lt_size e) I.ok.above))).trans e1⟩
  ·by_cases hj:j=i
   ·subst hj
    rw[hi]at e1;cases e1
    rw[List.getElem?_set_self hiσ]at e2
    cases e2
    exact⟨u,r,.inl ⟨hk,by simp⟩⟩
   ·rw[List.getElem?_set_ne (Ne.symm hj)]at e2
    obtain⟨u',r',q⟩:=hl j y v' e1 e2 e3
    refine⟨u',r',?_⟩
    rcases q with⟨k,e⟩|⟨k,c,e,z⟩
    ·refine .inl ⟨k,?_⟩
     have:y≠x:=fun e=>hj (ZfC hN e1 (e▸hi))
     simp[this,e]
    ·exact .inr ⟨k,c,e,z.sameBut hs (cne y c e)⟩
  ·obtain⟨w',z⟩:=I.cell y c e
   exact⟨w',z.sameBut hs (cne y c e)⟩
  ·obtain⟨e,n,ne,nf,d⟩:=I.pin p hp
   exact⟨(hs.2 p.1 ne).trans e,n,ne,nf,d⟩
 ·have hfn:X.fn x=true:=by
   rcases hf with z | z
   ·exact z
   ·rw[z]at hk;cases hk
  obtain⟨c,hc⟩:=I.ok.has x (.inl hk)
  obtain⟨w',z⟩:=I.cell x c hc
  refine wpAny_storeName_cell I.ok.kind hk hc z (fun h' hc' hs=>?_)
  obtain⟨oc,hoc,hocd⟩:=id z
  refine h { s with heap:=h' } ⟨I.ok,I.os,I.bare,⟨fun b o e n hb hx=>?_,fun b o e n hb hx=>?_,I.base.free,fun b o e hx=>?_,I.base.tups,I.base.frzs,I.base.tbls⟩,⟨m,hn.sameBut hs (Ne.symm (cne x c hc)),fun j y v' e1 e2 e3=>?_⟩,fun y c' e=>?_,I.free,I.freeC,fun p hp=>?_,tracked ⟨oc,hoc,I.freeC x c hc⟩ hs,by simpa using I.len⟩ ⟨c,hs,.inr hc⟩
  ·exact(hs.2 b (Nat.ne_of_lt (Nat.lt_of_lt_of_le (Heap.lt_size e) (I.ok.cab x c hfn hc)))).trans (I.base.keep b o e n hb hx)
  ·obtain⟨sl,e1⟩:=I.base.slot b o e n hb hx
   exact⟨sl,(hs.2 b (Nat.ne_of_lt (Nat.lt_of_lt_of_le (Heap.lt_size e) (I.ok.cab x c hfn hc)))).trans e1⟩
  ·obtain⟨o',e1⟩:=I.base.there b o e hx
   exact⟨o',(hs.2 b (Nat.ne_of_lt (Nat.lt_of_lt_of_le (Heap.lt_size e) (I.ok.cab x c hfn hc)))).trans e1⟩
  ·by_cases hj:j=i
   ·subst hj
    rw[hi]at e1;cases e1
    rw[List.getElem?_set_self hiσ]at e2
    cases e2
    exact⟨u,r,.inr ⟨.inl hk,c,hc,hc'⟩⟩
   ·rw[List.getElem?_set_ne (Ne.symm hj)]at e2
    obtain⟨u',r',q⟩:=hl j y v' e1 e2 e3
    refine⟨u',r',?_⟩
    rcases q with q | ⟨k,c',e,z'⟩
    ·exact .inl q
    ·refine .inr ⟨k,c',e,z'.sameBut hs ?_⟩
     rintro rfl
     exact hj (ZfC hN e1 (I.ok.inj _ _ _ e hc▸hi))
  ·by_cases hcc:c'=c
   ·subst hcc;exact⟨_,hc'⟩
   ·obtain⟨w2,z2⟩:=I.cell y c' e
    exact⟨w2,z2.sameBut hs hcc⟩
  ·obtain⟨e,n,ne,nf,d⟩:=I.pin p hp
   refine⟨(hs.2 p.1 ?_).trans e,n,ne,nf,d⟩
   intro q
   rw[q,hoc]at e
   have q':oc=p.2:=Option.some.inj e
   exact d w' (by rw[←q'];exact hocd)
theorem Zdl {M:Model}{A:Around}{E:Value→Shared→Prop}{i:Nat}{x:Str}{v:V}{u:Value}{Q:Unit→Shared→Prop}(I:Inv X pins σ H s)(hN:X.N.Nodup)(hi:X.N[i]?=some x)(hx:Loc X.env.scope x)(r:RelV v u)
  (h:∀s',Inv X pins (σ.set i (some v)) H s'→Q () s') (hf:X.fn x=true∨X.env.scope.names.lookup x=some .local:=by first | exact .inl rfl | exact .inr rfl | assumption):wpAny M A (storeName X.env x u) Q E s:=
 ZdX I hN hi hx r (fun s' I' _=>h s' I') hf
theorem Inv.call' {s':Shared}{ch:List Addr}(I:Inv X pins σ H s)(ho:s'.os=s.os)(u:Un (frs X.stack) ch H H' s.heap s'.heap)(hok:HOk X.prog X.w H' s'.heap)(hg:AllBare s'.gens)
  (hch:∀b∈ch,(b∈X.ex∨X.s₀.heap.objs.size≤b)∧b≠X.env.locals∧(∀x c,X.env.cells.lookup x=some c→c≠b)∧∀p∈X.pn++pins,p.1≠b):Inv X pins σ H' s':=by
 obtain⟨h',g',d',t',o'⟩:=s'
 have e:o'=s.os:=ho
 subst e
 exact I.call (g':=g') (t':=t') (d':=d') u hok hg hch
end
abbrev XK:=Value→Option Addr→Hp→Prop
abbrev St:=List (Option V)
abbrev VK:=V→Hp→Prop
abbrev TE:=St→Hp→VK→Prop
abbrev TT:=St→Hp→(Bool→Hp→Prop)→Prop
abbrev TA:=St→Hp→(List V→Hp→Prop)→Prop
structure Ends where
 nx:St→Hp→Prop
 rt:VK
 bk:St→Hp→Prop:=fun _ _=>False
 ct:St→Hp→Prop:=fun _ _=>False
abbrev TS:=Ends→St→Hp→Prop
def EP (X:Cx)(pins:List (Addr×Obj))(σ:St)(Q:VK)(u:Value)(s':Shared):Prop:=∃v H',Inv X pins σ H' s'∧RelV v u∧Q v H'
def TP (X:Cx)(pins:List (Addr×Obj))(σ:St)(Q:Bool→Hp→Prop)(b:Bool)(s':Shared):Prop:=∃H',Inv X pins σ H' s'∧Q b H'
def AP (X:Cx)(pins:List (Addr×Obj))(σ:St)(Q:List V→Hp→Prop)(us:List Value)(s':Shared):Prop:=∃vs H',Inv X pins σ H' s'∧Vals vs us∧Q vs H'
def SP (X:Cx)(pins:List (Addr×Obj))(D:Ends)(f:Flow)(s':Shared):Prop:=
 match f with
 | .next=>∃σ' H',Inv X pins σ' H' s'∧D.nx σ' H'
 | .brk=>∃σ' H',Inv X pins σ' H' s'∧D.bk σ' H'
 | .cont=>∃σ' H',Inv X pins σ' H' s'∧D.ct σ' H'
 | .ret u=>∃v σ' H',Inv X pins σ' H' s'∧RelV v u∧D.rt v H'
def PE (X:Cx)(e:Expr)(t:TE):Prop:=
 ∀(pins:List (Addr×Obj)) (s:Shared) (σ:St) (H:Hp) (Q:VK),Inv X pins σ H s→t σ H Q→wpAny (model X.prog X.w) X.A (eval e X.env) (EP X pins σ Q) X.xe s
def PT (X:Cx)(e:Expr)(t:TT):Prop:=
 ∀(pins:List (Addr×Obj)) (s:Shared) (σ:St) (H:Hp) (Q:Bool→Hp→Prop),Inv X pins σ H s→t σ H Q→wpAny (model X.prog X.w) X.A (isTrue e X.env (eval e X.env)) (TP X pins σ Q) X.xe s
def PW (X:Cx)(e:Expr)(t:TT):Prop:=
 ∀(whole:Sem Value) (pins:List (Addr×Obj)) (s:Shared) (σ:St) (H:Hp) (Q:Bool→Hp→Prop),Inv X pins σ H s→t σ H Q→wpAny (model X.prog X.w) X.A (isTrue e X.env whole) (TP X pins σ Q) X.xe s
theorem PW.pt {X:Cx}{e:Expr}{t:TT}(h:PW X e t):PT X e t:=h _
def PA (X:Cx)(es:List Expr)(t:TA):Prop:=
 ∀(pos:Pos) (pins:List (Addr×Obj)) (s:Shared) (σ:St) (H:Hp) (Q:List V→Hp→Prop),Inv X pins σ H s→t σ H Q→wpAny (model X.prog X.w) X.A (spliced (backTo pos (starEach es X.env))) (AP X pins σ Q) X.xe s
def PS (X:Cx)(st:Stmt)(t:TS):Prop:=
 ∀(pins:List (Addr×Obj)) (s:Shared) (σ:St) (H:Hp) (D:Ends),Inv X pins σ H s→t D σ H→wpAny (model X.prog X.w) X.A (exec st X.env) (SP X pins D) X.xe s
def PSs (X:Cx)(st:List Stmt)(t:TS):Prop:=
 ∀(pins:List (Addr×Obj)) (s:Shared) (σ:St) (H:Hp) (D:Ends),Inv X pins σ H s→t D σ H→wpAny (model X.prog X.w) X.A (execs st X.env) (SP X pins D) X.xe s
theorem thn {α:Type}{t:Sem α}{Q Q':α→Shared→Prop}{M:Model}{A:Around}{E:Value→Shared→Prop}{s:Shared}(h:wpAny M A t Q E s)(hQ:∀a s,Q a s→Q' a s):wpAny M A t Q' E s:=wpAny_mono h hQ fun _ _ x=>x
section
variable {X:Cx}
theorem bin {a b:Expr}{ta tb:TE}(ha:PE X a ta)(hb:PE X b tb){pins:List (Addr×Obj)}{s:Shared}{σ:St}{H:Hp}{R:V→V→Hp→Prop}(I:Inv X pins σ H s)(h:ta σ H fun x H1=>tb σ H1 fun y H2=>R x y H2)
  {α:Type} {Q:α→Shared→Prop} {f:Value→Value→Sem α}
  (hf:∀v u s2 x y H2,Inv X pins σ H2 s2→RelV x v→RelV y u→R x y H2→wpAny (model X.prog X.w) X.A (f v u) Q X.xe s2):
  wpAny (model X.prog X.w) X.A (eval a X.env) (fun v s₁=>wpAny (model X.prog X.w) X.A (eval b X.env) (fun u s₂=>wpAny (model X.prog X.w) X.A (f v u) Q X.xe s₂) X.xe s₁) X.xe s:=by
 refine thn (ha pins s σ H _ I h) fun v s1 ⟨x,H1,I1,r1,q1⟩=>?_
 refine thn (hb pins s1 σ H1 _ I1 q1) fun u s2 ⟨y,H2,I2,r2,q2⟩=>?_
 exact hf v u s2 x y H2 I2 r1 r2 q2
def tVar (i:Nat):TE:=fun σ H Q=>∃v,σ[i]?=some (some v)∧Q v H
def tC (v:V):TE:=fun _ H Q=>Q v H
theorem ZkS {i:Nat} {x:Str} {pos:Pos} (hN:X.N[i]?=some x) (hv:Vis X.env.scope x) (hd:(x == ("__debug__":Str))=false:=by decide) (hcd:(x == ("__classdict__":Str))=false:=by decide):PE X (.Name x pos) (tVar i):=by
 intro pins s σ H Q I h
 obtain⟨v,e,h⟩:=h
 obtain⟨m,hn,hl⟩:=I.loc
 obtain⟨u,r,l⟩:=hl i x v hN e hv
 have fin:EP X pins σ Q u s:=⟨v,H,I,r,h⟩
 rcases l with⟨hk,hm⟩|⟨hk,c,hc,hcell⟩
 ·exact wpAny_Name (wpAny_loadName_local I.ok.kind hk hn hm fin) hd
 ·rcases hk with hk | hk
  ·exact wpAny_Name (wpAny_loadName_cell I.ok.kind hk hc hcell fin) hd
  ·exact wpAny_Name (wpAny_loadName_free I.ok.kind hk hc hcell fin hcd) hd
theorem Zaj {i j pos}:PE X (.Constant (.int i) j pos) (tC (.int i)):=fun _ _ _ H _ I h=>wpAny_Constant_int ⟨.int i,H,I.tok _,⟨_,rfl⟩,h⟩
theorem Zd7 {b j pos}:PE X (.Constant (.bool b) j pos) (tC (.bl b)):=fun _ _ _ H _ I h=>Constant_bool ⟨.bl b,H,I,rfl,h⟩
theorem ZkU {x j pos}:PE X (.Constant (.str x) j pos) (tC (.str x)):=fun _ _ _ H _ I h=>Calls.Constant_str ⟨.str x,H,I.tok _,⟨_,rfl⟩,h⟩
def Gl (X:Cx)(x:Str):Prop:=X.env.kindOf x=some .globalImplicit
theorem Zdy {E:Value→Shared→Prop}{pins:List (Addr×Obj)}{s:Shared}{σ:St}{H:Hp}{x:Str}{u:Value}{pos:Pos}{Q:Value→Shared→Prop}(I:Inv X pins σ H s)(hg:Gl X x)(hm:X.mg x=some u)(h:Q u s)
  (hd:(x == ("__debug__":Str))=false:=by decide):wpAny (model X.prog X.w) X.A (eval (.Name x pos) X.env) Q E s:=
 Calls.Name_function_global I.ok.kind hg (Calls.loadGlobal_global (by rw[I.ok.glob];exact I.mod.glob.keeps I.bk) hm h) hd
theorem Zc6 {E:Value→Shared→Prop}{pins:List (Addr×Obj)}{s:Shared}{σ:St}{H:Hp}{x:Str}{u:Value}{pos:Pos}{Q:Value→Shared→Prop}(I:Inv X pins σ H s)(hg:Gl X x)(hm:X.mg x=none)(hv:bootBuiltins x=some u)(h:Q u s)
  (hn:x≠"__name__":=by decide) (hd:(x == ("__debug__":Str))=false:=by decide):wpAny (model X.prog X.w) X.A (eval (.Name x pos) X.env) Q E s:=by
 obtain⟨mb,h1,h2⟩:=I.mod.blt
 exact Calls.Name_function_global I.ok.kind hg (Calls.loadGlobal_builtin (by rw[I.ok.glob];exact I.mod.glob.keeps I.bk) hm (by rw[I.ok.blt];exact h1.keeps I.bk) ((h2 x hn).trans hv) h) hd
theorem ZgZ {x:Str} {v:V} {u:Value} {pos:Pos} (hg:Gl X x) (hm:X.mg x=some u) (r:RelV v u) (hd:(x == ("__debug__":Str))=false:=by decide):PE X (.Name x pos) (tC v):=
 fun _ _ _ H _ I h=>Zdy I hg hm ⟨v,H,I,r,h⟩ hd
theorem Zds {x:Str} {v:V} {u:Value} {pos:Pos} (hg:Gl X x) (hm:X.mg x=none) (hv:bootBuiltins x=some u) (r:RelV v u) (hn:x≠"__name__":=by decide) (hd:(x == ("__debug__":Str))=false:=by decide):PE X (.Name x pos) (tC v):=
 fun _ _ _ H _ I h=>Zc6 I hg hm hv ⟨v,H,I,r,h⟩ hn hd
variable {a b:Expr}{ta tb:TE}{pos:Pos}
def PC (X:Cx)(op:CmpOp)(a b:Expr)(t:TE):Prop:=
 ∀(pins:List (Addr×Obj)) (s:Shared) (σ:St) (H:Hp) (Q:VK),Inv X pins σ H s→t σ H Q →
  wpAny (model X.prog X.w) X.A (eval a X.env) (fun v s₁=>wpAny (model X.prog X.w) X.A (eval b X.env) (fun u s₂=>wpAny (model X.prog X.w) X.A (compareOp op v u) (EP X pins σ Q) X.xe s₂) X.xe s₁) X.xe s
theorem Zh8 (b:Expr){op:CmpOp}(h:op≠.In)(h2:op≠.NotIn):behindInMarks op b=false:=by
 have e1:(op == CmpOp.In)=false:=by cases op<;>first | rfl | exact absurd rfl h
 have e2:(op == CmpOp.NotIn)=false:=by cases op<;>first | rfl | exact absurd rfl h2
 cases b<;>simp[behindInMarks,e1,e2]
def tB (t:TE):TT:=fun σ H Q=>t σ H fun x H1=>∃c,x=.bl c∧Q c H1
theorem Zfv {op:CmpOp}{t:TE}(h:PC X op a b t)(h1:behindInMarks op b=false:=by first | exact Zh8 _ (by decide) (by decide) | rfl):PT X (.Compare a [op] [b] pos) (tB t):=by
 intro pins s σ H Q I hw
 refine wpAny_isTrue_Compare1 (thn (h pins s σ H _ I hw) fun v s1 h1=>thn h1 fun u s2 h2=>thn h2 fun c s3 ⟨x,H1,I1,r1,q1⟩=>?_) h1
 obtain⟨d,rfl,q⟩:=q1
 cases r1
 exact wpAny_truthy_bool ⟨H1,I1,q⟩
theorem ZbN {e:Expr}{t:TE}(h:PE X e t)(he:∀whole,isTrue e X.env whole=(do let v ←whole;standAt e.pos;holding [v] (truthy v)):=by intro _;rfl):PT X e (tB t):=by
 intro pins s σ H Q I hw
 refine isTrue_plain (thn (h pins s σ H _ I hw) fun v s1 ⟨x,H1,I1,r1,q1⟩=>?_) (he _)
 obtain⟨d,rfl,q⟩:=q1
 cases r1
 exact wpAny_truthy_bool ⟨H1,I1,q⟩
variable {tA tB':TT}{rest:List Expr}
def tAnd (t u:TT):TT:=fun σ H Q=>t σ H fun c H1=>if c=true then u σ H1 Q else Q false H1
def tOr (t u:TT):TT:=fun σ H Q=>t σ H fun c H1=>if c=true then Q true H1 else u σ H1 Q
def tNot (t:TT):TT:=fun σ H Q=>t σ H fun c H1=>Q (!c) H1
theorem Zdn (ha:PT X a tA):PW X (.BoolOp .And [a] pos) tA:=by
 intro wh pins s σ H Q I h
 refine isTrue_and (thn (ha pins s σ H Q I h) fun c s1 e=>?_)
 cases c with
 | true=>exact isTrue_and_nil e
 | false=>exact e
theorem Zd2 (ha:PT X a tA):PW X (.BoolOp .Or [a] pos) tA:=by
 intro wh pins s σ H Q I h
 refine isTrue_or (thn (ha pins s σ H Q I h) fun c s1 e=>?_)
 cases c with
 | false=>exact isTrue_or_nil e
 | true=>exact e
theorem Zft (ha:PT X a tA)(hb:PW X (.BoolOp .And (b::rest) pos) tB'):PW X (.BoolOp .And (a::b::rest) pos) (tAnd tA tB'):=by
 intro wh pins s σ H Q I h
 refine isTrue_and (thn (ha pins s σ H _ I h) fun c s1 ⟨H1,I1,q1⟩=>?_)
 cases c with
 | true=>exact hb wh pins s1 σ H1 Q I1 q1
 | false=>exact⟨H1,I1,q1⟩
theorem Zd3 (ha:PT X a tA)(hb:PW X (.BoolOp .Or (b::rest) pos) tB'):PW X (.BoolOp .Or (a::b::rest) pos) (tOr tA tB'):=by
 intro wh pins s σ H Q I h
 refine isTrue_or (thn (ha pins s σ H _ I h) fun c s1 ⟨H1,I1,q1⟩=>?_)
 cases c with
 | true=>exact⟨H1,I1,q1⟩
 | false=>exact hb wh pins s1 σ H1 Q I1 q1
theorem Zcr (ha:PT X a tA):PT X (.UnaryOp .Not a pos) (tNot tA):=by
 intro pins s σ H Q I h
 exact isTrue_not (ha pins s σ H (fun c H1=>Q (!c) H1) I h)
def ZkG (ta tb:TE):TE:=fun σ H Q=>ta σ H fun x H1=>∃c,x=.bl c∧if c=true then tb σ H1 Q else Q (.bl false) H1
def tOrV (ta tb:TE):TE:=fun σ H Q=>ta σ H fun x H1=>∃c,x=.bl c∧if c=true then Q (.bl true) H1 else tb σ H1 Q
def Zkr (ta:TE):TE:=fun σ H Q=>ta σ H fun x H1=>∃c,x=.bl c∧Q (.bl (!c)) H1
theorem ZiL {op}{t:TE}(h:PE X a t):PE X (.BoolOp op [a] pos) t:=fun pins s σ H Q I hw=>BoolOp_one (h pins s σ H Q I hw)
theorem Zg1 (ha:PE X a ta)(hb:PE X (.BoolOp .And (b::rest) pos) tb):PE X (.BoolOp .And (a::b::rest) pos) (ZkG ta tb):=by
 intro pins s σ H Q I h
 refine BoolOp_and (thn (ha pins s σ H _ I h) fun v s1 ⟨x,H1,I1,r1,q1⟩=>?_)
 obtain⟨c,rfl,q1⟩:=q1
 cases r1
 refine wpAny_truthy_bool ?_
 cases c with
 | true=>exact hb pins s1 σ H1 Q I1 q1
 | false=>exact⟨.bl false,H1,I1,rfl,q1⟩
theorem ZkV (ha:PE X a ta):PE X (.UnaryOp .Not a pos) (Zkr ta):=by
 intro pins s σ H Q I h
 refine UnaryOp_ (thn (ha pins s σ H _ I h) fun v s1 ⟨x,H1,I1,r1,q1⟩=>?_)
 obtain⟨c,rfl,q1⟩:=q1
 cases r1
 exact not_of (wpAny_truthy_bool ⟨.bl (!c),H1,I1,rfl,q1⟩)
def tIf (t:TT)(ta tb:TE):TE:=fun σ H Q=>t σ H fun c H1=>if c=true then ta σ H1 Q else tb σ H1 Q
end
def SqL (K:PySem.W.Frag)(H:Hp)(a:Addr)(xs:List V):Prop:=
 Rd H a (.lst xs) ∨
  ∃(o:Obj) (its:Array Value) (n:Nat),K.lookup a=some o∧o.cls=.type "list"∧o.dict=none∧o.data=.seq its n∧its.size≤sizeLine∧Vals xs its.toList
def SqT (K:PySem.W.Frag)(H:Hp)(a:Addr)(xs:List V):Prop:=
 Rd H a (.tup xs) ∨
  ∃(o:Obj) (its:Array Value) (n:Nat),K.lookup a=some o∧o.cls=.type "tuple"∧o.data=.seq its n∧its.size≤sizeLine∧Vals xs its.toList
def absV:Value→Option V
 | .none=>some .non
 | .bool b=>some (.bl b)
 | .int i _=>some (.int i)
 | .str x _=>some (.str x)
 | .bytes b _=>some (.byt b)
 | .float b _=>some (.flt b)
 | .ref a=>some (.ref a)
 | .type n=>some (.ty n)
 | _=>none
theorem RelV.abs {x:V}{u:Value}(r:RelV x u):absV u=some x:=by
 cases x with
 | non=>cases r;rfl
 | bl _=>cases r;rfl
 | int _=>obtain⟨t,rfl⟩:=r;rfl
 | str _=>obtain⟨t,rfl⟩:=r;rfl
 | byt _=>obtain⟨t,rfl⟩:=r;rfl
 | flt _=>obtain⟨t,rfl⟩:=r;rfl
 | ref _=>cases r;rfl
 | ty _=>cases r;rfl
theorem RelV.inj {x y:V}{u:Value}(r:RelV x u)(q:RelV y u):x=y:=Option.some.inj (r.abs.symm.trans q.abs)
theorem Vals.inj:∀ {xs ys:List V} {us:List Value},Vals xs us→Vals ys us→xs=ys
 | _,_,_,.nil,.nil=>rfl
 | _,_,_,.cons r t,.cons r' t'=>by rw[r.inj r',Vals.inj t t']
section
variable {X:Cx}{pins:List (Addr×Obj)}{σ:St}{H:Hp}{s:Shared}{a:Addr}{xs ys:List V}
theorem Inv.list (I:Inv X pins σ H s)(h:SqL X.K H a xs):∃its:List Value,Vals xs its∧PlainL s.heap a its.toArray∧xs.length≤sizeLine:=by
 rcases h with h | ⟨o,its,n,hk,hc,hd,hs,hz,r⟩
 ·obtain⟨z,its,n,r,e⟩:=h.ok I.hok
  exact⟨its,r,⟨_,n,e,rfl,rfl,rfl⟩,z⟩
 ·refine⟨its.toList,r,⟨o,n,I.kIn a o hk,hc,hd,by simpa using hs⟩,?_⟩
  have e:=r.length
  simp only[Array.length_toList]at e
  omega
theorem Inv.tuple (I:Inv X pins σ H s)(h:SqT X.K H a xs):∃its:List Value,Vals xs its∧IsTup s.heap a its.toArray∧xs.length≤sizeLine:=by
 rcases h with h | ⟨o,its,n,hk,hc,hs,hz,r⟩
 ·obtain⟨z,its,r,p⟩:=h.ok I.hok
  exact⟨its,r,p,z⟩
 ·refine⟨its.toList,r,⟨o,I.kIn a o hk,hc,n,by simpa using hs⟩,?_⟩
  have e:=r.length
  simp only[Array.length_toList]at e
  omega
theorem Inv.list_inj (I:Inv X pins σ H s)(h:SqL X.K H a xs)(h':SqL X.K H a ys):xs=ys:=by
 obtain⟨its,r,⟨o,n,e,_,_,d⟩,_⟩:=I.list h
 obtain⟨its',r',⟨o',n',e',_,_,d'⟩,_⟩:=I.list h'
 rw[e]at e';cases e'
 rw[d]at d'
 injection d' with d1 _
 have:its=its':=by simpa using congrArg Array.toList d1
 subst this
 exact r.inj r'
theorem Inv.tuple_inj (I:Inv X pins σ H s)(h:SqT X.K H a xs)(h':SqT X.K H a ys):xs=ys:=by
 obtain⟨its,r,⟨o,e,_,n,d⟩,_⟩:=I.tuple h
 obtain⟨its',r',⟨o',e',_,n',d'⟩,_⟩:=I.tuple h'
 rw[e]at e';cases e'
 rw[d]at d'
 injection d' with d1 _
 have:its=its':=by simpa using congrArg Array.toList d1
 subst this
 exact r.inj r'
end
abbrev Cx.wish (X:Cx)(E:Value→Shared→Prop):Cx:={ X with xe:=E }
abbrev Cx.nox (X:Cx):Cx:=X.wish fun _ _=>False
theorem Cx.Ok.wish {X:Cx}(ok:X.Ok)(E:Value→Shared→Prop):(X.wish E).Ok:=
 ⟨ok.mod,ok.kind,ok.glob,ok.blt,ok.above,ok.inj,ok.has,ok.cab,ok.hd,ok.frames,ok.stk,ok.exf,ok.bs,ok.bsz,ok.noex,ok.exfs,ok.funs,ok.frf⟩
theorem Cx.Ok.unwish {X:Cx}{E:Value→Shared→Prop}(ok:(X.wish E).Ok):X.Ok:=
 ⟨ok.mod,ok.kind,ok.glob,ok.blt,ok.above,ok.inj,ok.has,ok.cab,ok.hd,ok.frames,ok.stk,ok.exf,ok.bs,ok.bsz,ok.noex,ok.exfs,ok.funs,ok.frf⟩
section
variable {X:Cx}{pins:List (Addr×Obj)}{σ:St}{H:Hp}{s:Shared}{E:Value→Shared→Prop}
theorem Inv.wish (I:Inv X pins σ H s)(E:Value→Shared→Prop):Inv (X.wish E) pins σ H s:=⟨I.ok.wish E,I.os,I.bare,I.base,I.loc,I.cell,I.free,I.freeC,I.pin,I.hok,I.len⟩
theorem Inv.unwish (I:Inv (X.wish E) pins σ H s):Inv X pins σ H s:=⟨I.ok.unwish,I.os,I.bare,I.base,I.loc,I.cell,I.free,I.freeC,I.pin,I.hok,I.len⟩
theorem SP.unwish {D:Ends}{f:Flow}{s':Shared}(h:SP (X.wish E) pins D f s'):SP X pins D f s':=by
 cases f with
 | next=>obtain⟨σ',H',I,q⟩:=h;exact⟨σ',H',I.unwish,q⟩
 | brk=>obtain⟨σ',H',I,q⟩:=h;exact⟨σ',H',I.unwish,q⟩
 | cont=>obtain⟨σ',H',I,q⟩:=h;exact⟨σ',H',I.unwish,q⟩
 | ret u=>obtain⟨v,σ',H',I,r,q⟩:=h;exact⟨v,σ',H',I.unwish,r,q⟩
theorem PSs.nox {st:List Stmt}{t:TS}(h:PSs X.nox st t):PSs X st t:=fun pins s σ H D I hw=>
 wpAny_mono (h pins s σ H D (I.wish _) hw) (fun _ _ q=>q.unwish) fun _ _ z=>False.elim z
end
section
variable {X:Cx}{st:Stmt}{rest:List Stmt}{t u:TS}{e:Expr}{te:TE}{pos:Pos}
def tNext:TS:=fun D σ H=>D.nx σ H
def tSeq (t u:TS):TS:=fun D σ H=>t { D with nx:=u D } σ H
theorem ZaB:PSs X [] tNext:=fun _ _ σ H _ I h=>wpAny_execs_nil ⟨σ,H,I,h⟩
theorem Zac (h1:PS X st t)(h2:PSs X rest u):PSs X (st::rest) (tSeq t u):=by
 intro pins s σ H D I h
 refine wpAny_execs_cons (thn (h1 pins s σ H { D with nx:=u D } I h) fun f s1 q=>?_)
 cases f with
 | next=>
  obtain⟨σ',H',I',q⟩:=q
  exact h2 pins s1 σ' H' D I' q
 | ret v=>exact q
 | brk=>exact q
 | cont=>exact q
theorem Zag (h1:PS X st t):PSs X [st] t:=by
 intro pins s σ H D I h
 refine wpAny_execs_cons (thn (h1 pins s σ H D I h) fun f s1 q=>?_)
 cases f with
 | next=>exact wpAny_execs_nil q
 | ret v=>exact q
 | brk=>exact q
 | cont=>exact q
theorem Inv.quiet {pins:List (Addr×Obj)}{σ:St}{H:Hp}{s:Shared}(I:Inv X pins σ H s):interactive X.env=false:=by simp[interactive,I.ok.kind]
def Zkw (te:TE):TS:=fun D σ H=>te σ H fun _ H1=>D.nx σ H1
theorem ZaU (he:PE X e te)(hs:swapsWith e none pos.line X.env=pure false:=by rfl):PS X (.Expr e pos) (Zkw te):=by
 intro pins s σ H D I h
 exact wpAny_Expr_any (thn (he pins s σ H _ I h) fun v s1 ⟨x,H1,I1,r1,q1⟩=>⟨σ,H1,I1,q1⟩) I.quiet hs
def tRet (te:TE):TS:=fun D σ H=>te σ H D.rt
theorem Zay (he:PE X e te):PS X (.Return (some e) pos) (tRet te):=by
 intro pins s σ H D I h
 exact wpAny_Return_some (thn (he pins s σ H _ I h) fun v s1 ⟨x,H1,I1,r1,q1⟩=>⟨x,σ,H1,I1,r1,q1⟩)
def ZlS:TS:=fun D _ H=>D.rt .non H
def tIfS (c:TT)(t u:TS):TS:=fun D σ H=>c σ H fun b H1=>if b=true then t D σ H1 else u D σ H1
theorem Zbj {c:Expr}{a b:List Stmt}{tc:TT}(hc:PT X c tc)(ha:PSs X a t)(hb:PSs X b u):PS X (.If c a b pos) (tIfS tc t u):=by
 intro pins s σ H D I h
 refine wpAny_If (thn (hc pins s σ H _ I h) fun d s1 ⟨H1,I1,q1⟩=>?_)
 cases d with
 | true=>exact ha pins s1 σ H1 D I1 q1
 | false=>exact hb pins s1 σ H1 D I1 q1
end
abbrev TG:=V→St→Hp→(St→Hp→Prop)→Prop
abbrev TGs:=List V→St→Hp→(St→Hp→Prop)→Prop
def PG (X:Cx)(target:Expr)(t:TG):Prop:=
 ∀(pins:List (Addr×Obj)) (s:Shared) (σ:St) (H:Hp) (v:V) (u:Value) (Q:St→Hp→Prop),Inv X pins σ H s→RelV v u→t v σ H Q →
  wpAny (model X.prog X.w) X.A (assign target X.env u) (fun _ s'=>∃σ' H',Inv X pins σ' H' s'∧Q σ' H') X.xe s
abbrev TIp:=V→V→Hp→VK→Prop
def PIp (X:Cx)(op:Operator)(t:TIp):Prop:=
 ∀(pins:List (Addr×Obj)) (s:Shared) (σ:St) (H:Hp) (x y:V) (v u:Value) (Q:VK),Inv X pins σ H s→RelV x v→RelV y u→t x y H Q →
  wpAny (model X.prog X.w) X.A (inplaceOp op v u) (EP X pins σ Q) X.xe s
section
variable {X:Cx}{pos:Pos}
def ZbK (i:Nat):TG:=fun v σ H Q=>Q (σ.set i (some v)) H
theorem Zaq {i:Nat}{x:Str}(hN:X.N.Nodup)(hi:X.N[i]?=some x)(hx:Loc X.env.scope x)(hf:X.fn x=true∨X.env.scope.names.lookup x=some .local:=by first | exact .inl rfl | exact .inr rfl | assumption):PG X (.Name x pos) (ZbK i):=by
 intro pins s σ H v u Q I r h
 exact wpAny_assign_Name (Zdl I hN hi hx r (fun s' I'=>⟨_,H,I',h⟩) hf)
def gNil:TGs:=fun vs σ H Q=>vs=[]∧Q σ H
def Zno (t:TG)(u:TGs):TGs:=fun vs σ H Q=>∃v r,vs=v::r∧t v σ H fun σ' H'=>u r σ' H' Q
def gTup (K:PySem.W.Frag)(n:Nat)(t:TGs):TG:=fun v σ H Q=>∃a xs,v=.ref a∧SqT K H a xs∧xs.length=n∧t xs σ H Q
def tAsg (te:TE)(g:TG):TS:=fun D σ H=>te σ H fun x H1=>g x σ H1 D.nx
theorem Zam {i:Nat}{x:Str}{e:Expr}{te:TE}{pos':Pos}(hN:X.N.Nodup)(hi:X.N[i]?=some x)(hx:Loc X.env.scope x)(he:PE X e te)(hs:swapsWith e (some (.Name x pos')) pos.line X.env=pure false:=by rfl)(hf:X.fn x=true∨X.env.scope.names.lookup x=some .local:=by first | exact .inl rfl | exact .inr rfl | assumption):
  PS X (.Assign [.Name x pos'] e pos) (tAsg te (ZbK i)):=by
 intro pins s σ H D I h
 refine wpAny_Assign_Name (thn (he pins s σ H _ I h) fun v s1 ⟨y,H1,I1,r1,q1⟩=>?_) hs
 exact Zdl I1 hN hi hx r1 (fun s2 I2=>⟨_,H1,I2,q1⟩) hf
def tPar (i j:Nat)(ta:TA):TS:=fun D σ H=>ta σ H fun vs H1=>∃v w,vs=[v,w]∧D.nx ((σ.set i (some v)).set j (some w)) H1
def tAug (i:Nat)(te:TE)(ti:TIp):TS:=fun D σ H=>∃x,σ[i]?=some (some x)∧te σ H fun y H1=>ti x y H1 fun z H2=>D.nx (σ.set i (some z)) H2
theorem ZiK {i:Nat}{x:Str}{e:Expr}{te:TE}{op:Operator}{ti:TIp}{pos':Pos}(hN:X.N.Nodup)(hi:X.N[i]?=some x)(hx:Loc X.env.scope x)(he:PE X e te)(ho:PIp X op ti)(hf:X.fn x=true∨X.env.scope.names.lookup x=some .local:=by first | exact .inl rfl | exact .inr rfl | assumption):
  PS X (.AugAssign (.Name x pos') op e pos) (tAug i te ti):=by
 intro pins s σ H D I h
 obtain⟨v,e1,h⟩:=h
 obtain⟨m,hn,hl⟩:=I.loc
 have vis:Vis X.env.scope x:=by rcases hx with k | k;exact .inl k;exact .inr (.inl k)
 obtain⟨u,r,l⟩:=hl i x v hi e1 vis
 refine wpAny_AugAssign_Name ?_
 have go:wpAny (model X.prog X.w) X.A (eval e X.env) (fun w s₂=>wpAny (model X.prog X.w) X.A (inplaceOp op u w) (fun r s₃=>wpAny (model X.prog X.w) X.A (storeName X.env x r) (fun _=>SP X pins D .next) X.xe s₃) X.xe s₂) X.xe s:=by
  refine thn (he pins s σ H _ I h) fun w s1 ⟨y,H1,I1,r1,q1⟩=>?_
  refine thn (ho pins s1 σ H1 v y u w _ I1 r r1 q1) fun z s2 ⟨zv,H2,I2,r2,q2⟩=>?_
  exact Zdl I2 hN hi hx r2 (fun s3 I3=>⟨_,H2,I3,q2⟩) hf
 rcases l with⟨hk,hm⟩|⟨hk,c,hc,hcell⟩
 ·exact wpAny_loadName_local I.ok.kind hk hn hm go
 ·rcases hk with hk | hk
  ·exact wpAny_loadName_cell I.ok.kind hk hc hcell go
  ·rcases hx with k | k
   ·have:X.env.scope.names.lookup x=some .free:=hk
    rw[k]at this;cases this
   ·have:X.env.scope.names.lookup x=some .free:=hk
    rw[k]at this;cases this
def ipI (f:Int→Int→Int):TIp:=fun x y H Q=>∃i j,x=.int i∧y=.int j∧Q (.int (f i j)) H
theorem ZiR:PIp X .Add (ipI fun i j=>i+j):=by
 intro pins s σ H x y v u Q I r1 r2 h
 obtain⟨i,j,e1,e2,q⟩:=h
 subst e1;subst e2
 obtain⟨t,rfl⟩:=r1
 obtain⟨t',rfl⟩:=r2
 exact iadd_int ⟨.int _,H,I.tok _,⟨_,rfl⟩,q⟩
end
section
variable {X:Cx}{pos:Pos}
def ZgG (c:TT)(tb:TS):TS:=fun D σ H=>∃W:Nat→St→Hp→Prop,(∃m,W m σ H)∧∀m σ H,W m σ H →
 c σ H fun b H1=>if b=true then ∃N:St→Hp→Prop,(∀σ' H',N σ' H'→∃m',m'<m∧W m' σ' H')∧tb { D with nx:=N,ct:=N,bk:=D.nx } σ H1 else D.nx σ H1
theorem Zdp {c:Expr}{body:List Stmt}{tc:TT}{tb:TS}(hp:PassesOwn (model X.prog X.w) X.A X.env X.xe)(hc:PT X c tc)(hb:PSs X body tb):PS X (.While c body [] pos) (ZgG tc tb):=by
 intro pins s σ H D I h
 obtain⟨W,⟨m0,w0⟩,turn⟩:=h
 refine wpAny_While (codeAny_whileLoop (fun n s'=>∃σ' H',Inv X pins σ' H' s'∧W n σ' H') ?_ m0 ⟨σ,H,I,w0⟩)
 rintro n s1 ⟨σ1,H1,I1,w1⟩
 refine wpAny_passesOwn hp (thn (hc pins s1 σ1 H1 _ I1 (turn n σ1 H1 w1)) fun b s2 ⟨H2,I2,q2⟩=>?_)
 cases b with
 | true=>
  obtain⟨N,hN,q2⟩:=q2
  rw[if_pos rfl]
  refine wpAny_passesOwn hp (thn (hb pins s2 σ1 H2 _ I2 q2) fun f s3 q3=>?_)
  cases f with
  | next=>
   obtain⟨σ3,H3,I3,n3⟩:=q3
   obtain⟨m',hm,w3⟩:=hN σ3 H3 n3
   exact⟨m',hm,σ3,H3,I3,w3⟩
  | cont=>
   obtain⟨σ3,H3,I3,n3⟩:=q3
   obtain⟨m',hm,w3⟩:=hN σ3 H3 n3
   exact⟨m',hm,σ3,H3,I3,w3⟩
  | brk=>exact q3
  | ret v=>exact q3
 | false=>
  rw[if_neg Bool.false_ne_true]
  exact wpAny_execs_nil ⟨σ1,H2,I2,q2⟩
end
structure It where
 go:Nat→Hp→Prop
 yld:Nat→Hp→V→Hp→Prop
 stop:Nat→Hp→Prop
def FpOk (X:Cx)(pins:List (Addr×Obj))(H:Hp)(b:Addr):Prop:=
 H b=none∧b≠X.env.locals∧b∉X.fs∧(b∈X.ex∨X.s₀.heap.objs.size≤b)∧(∀x c,X.env.cells.lookup x=some c→c≠b)∧∀p∈X.pn++pins,p.1≠b
theorem Inv.fpOk {X:Cx}{pins:List (Addr×Obj)}{σ:St}{H H':Hp}{s:Shared}{b:Addr}(I:Inv X pins σ H s)(hb:s.heap.objs.size≤b)(hn:H' b=none):FpOk X pins H' b:=by
 refine⟨hn,Nat.ne_of_gt (Nat.lt_of_lt_of_le I.lt hb),I.nofs hb,.inr (Nat.le_trans I.sz hb),fun x c e z=>?_,fun p hp z=>?_⟩
 ·obtain⟨v,q⟩:=I.cell x c e
  exact absurd (Nat.lt_of_lt_of_le q.lt (by rw[z];exact hb)) (Nat.lt_irrefl _)
 ·exact absurd (Nat.lt_of_lt_of_le (Heap.lt_size (I.pin p hp).1) (by rw[z];exact hb)) (Nat.lt_irrefl _)
structure Turn (P:Program)(w:World)(K:PySem.W.Frag)(tg:Expr)(J:It)(fp:List Addr)(it:Addr)(tn:Nat→Heap→Prop):Prop where
 mem:it∈fp
 obj:∀i h,tn i h→∀b∈fp,∃o,h.get? b=some o∧∀v,o.data≠.cell v
 keep:∀i h h',tn i h→(∀b∈fp,∀o,h.get? b=some o→h'.get? b=some o)→tn i h'
 item:∀(X:Cx),X.prog=P→X.w=w→X.K=K→X.calm=true→∀(i:Nat) (pins:List (Addr×Obj)) (s:Shared) (σ:St) (H:Hp) (E:Value→Shared→Prop),Inv X pins σ H s→(∀b∈fp,FpOk X pins H b)→tn i s.heap→J.go i H →
  wpAny (model P w) X.A (pyNext (.ref it)) (fun r s1=>∃u,r=some u ∧
   wpAny (model P w) X.A (letOwnedTupleGo tg (.ref it) u) (fun _ s2=>∃x H',Inv X pins σ H' s2∧RelV x u∧J.yld i H x H'∧tn (i+1) s2.heap∧∀b∈fp,H' b=none) E s1) E s
 done:∀(X:Cx),X.prog=P→X.w=w→X.K=K→X.calm=true→∀(i:Nat) (pins:List (Addr×Obj)) (s:Shared) (σ:St) (H:Hp) (E:Value→Shared→Prop),Inv X pins σ H s→(∀b∈fp,FpOk X pins H b)→tn i s.heap→J.stop i H →
  wpAny (model P w) X.A (pyNext (.ref it)) (fun r s1=>r=none∧Inv X pins σ H s1) E s
 self:∀(A:Around) (i:Nat) (s:Shared) (Q:Value→Shared→Prop) (E:Value→Shared→Prop),tn i s.heap→Q (.ref it) s→wpAny (model P w) A (pyIter (.ref it)) Q E s
abbrev TI:=St→Hp→(It→Hp→Prop)→Prop
def PIE (X:Cx)(pins:List (Addr×Obj))(σ:St)(tg:Expr)(R:It→Hp→Prop)(itv:Value)(s2:Shared):Prop:=
 ∃(it:Addr) (fp:List Addr) (tn:Nat→Heap→Prop) (J:It) (H':Hp),itv=.ref it∧Inv X pins σ H' s2∧Turn X.prog X.w X.K tg J fp it tn∧tn 0 s2.heap∧(∀b∈fp,FpOk X pins H' b)∧R J H'
def PI (X:Cx)(tg iter:Expr)(wi:TI):Prop:=
 ∀(pins:List (Addr×Obj)) (s:Shared) (σ:St) (H:Hp) (R:It→Hp→Prop),Inv X pins σ H s→wi σ H R →
  wpAny (model X.prog X.w) X.A (eval iter X.env) (fun v s1=>wpAny (model X.prog X.w) X.A (pyIter v) (PIE X pins σ tg R) X.xe s1) X.xe s
theorem Zhu {M:Model}{A:Around}{E:Value→Shared→Prop}{s:Shared}{tg:Expr}{it:Addr}{u:Value}{o:Obj}{n:String}{vs:Array Value}{Q:Unit→Shared→Prop}(ho:s.heap.get? it=some o)(hc:o.cls=.type n)(hd:o.data=.fields vs)
    (hn:["enumerate","zip","dict_itemiterator","dict_reverseitemiterator","odict_iterator","itertools.zip_longest","itertools.pairwise"].contains n=false) (hQ:Q () s):wpAny M A (letOwnedTupleGo tg (.ref it) u) Q E s:=by
  unfold letOwnedTupleGo
  cases tg<;>first
    | exact wpAny_pure hQ
    | (cases u<;>first
        | exact wpAny_pure hQ
        | (refine wpAny_bind (wpAny_load ho ?_)
           rw[hc,hd]
           show wpAny M A (if (["enumerate","zip","dict_itemiterator","dict_reverseitemiterator","odict_iterator","itertools.zip_longest","itertools.pairwise"].contains n&&vs[0]? == some (rawInt _))=true then _ else _) Q E s
           rw[if_neg (by intro h;rw[hn,Bool.false_and]at h;cases h)]
           exact wpAny_pure hQ))
def Itl (K:PySem.W.Frag)(a:Addr):It:=
 ⟨fun i H=>∃xs x,SqL K H a xs∧xs[i]?=some x,fun i H x H'=>H'=H∧∀xs,SqL K H a xs→xs[i]?=some x,fun i H=>∃xs,SqL K H a xs∧xs.length≤i⟩
def Itt (K:PySem.W.Frag)(a:Addr):It:=
 ⟨fun i H=>∃xs x,SqT K H a xs∧xs[i]?=some x,fun i H x H'=>H'=H∧∀xs,SqT K H a xs→xs[i]?=some x,fun i H=>∃xs,SqT K H a xs∧xs.length≤i⟩
def Itr (lo:Int)(n:Nat):It:=⟨fun i _=>i<n,fun i H x H'=>H'=H∧x=.int (lo+i),fun i _=>n≤i⟩
theorem ZgE {P:Program}{w:World}{K:PySem.W.Frag}{tg:Expr}(a it:Addr):Turn P w K tg (Itl K a) [it] it (fun i h=>h.IsListIter it a i) where
 mem:=by simp
 obj:=fun i h st b hb=>by
  have e:b=it:=by simpa using hb
  subst e
  obtain⟨o,e,c,d⟩:=st
  exact⟨o,e,fun v z=>by rw[d]at z;cases z⟩
 keep:=fun i h h' st k=>st.at fun o e=>k it (by simp) o e
 item:=by
  intro X hP hw hK hc i pins s σ H E I hf st hg
  subst hP hw hK
  obtain⟨xs,x,hq,hx⟩:=hg
  obtain⟨its,rv,p,hz⟩:=I.list hq
  obtain⟨u,hu,ru⟩:=rv.get hx
  obtain⟨f0,f1,f2,f3,f4,f5⟩:=hf it (by simp)
  refine wpAny_pyNext_list_item st p.isList (x:=u) (by simpa using hu) fun h' st' sb=>?_
  have I1:Inv X pins σ H { s with heap:=h' }:=I.turned (t':=s.toks) (fun b o hb e=>(sb.2 b hb).trans e) f0 f1 f3 f4 f5
  obtain⟨o,e,c,d⟩:=id st'
  exact⟨u,rfl,Zhu (s:={ s with heap:=h' }) e c d (by decide) ⟨x,H,I1,ru,⟨rfl,fun ys hy=>by rw[I.list_inj hy hq];exact hx⟩,st',fun b hb=>(hf b hb).1⟩⟩
 done:=by
  intro X hP hw hK hc i pins s σ H E I hf st hg
  subst hP hw hK
  obtain⟨xs,hq,hx⟩:=hg
  obtain⟨its,rv,p,hz⟩:=I.list hq
  obtain⟨f0,f1,f2,f3,f4,f5⟩:=hf it (by simp)
  have hl:=rv.length
  exact wpAny_pyNext_list_end (I.ok.hd hc) st p.isList (by simp;omega) fun h' eb=>⟨rfl,I.turned (t':=s.toks) (fun b o hb e=>eb b o hb e) f0 f1 f3 f4 f5⟩
 self:=fun _ _ _ _ _ st h=>wpAny_pyIter_listiter st h
theorem ZfZ {P:Program}{w:World}{K:PySem.W.Frag}{tg:Expr}(it:Addr)(lo:Int)(n:Nat):Turn P w K tg (Itr lo n) [it] it (fun i h=>IsRangeIter h it (lo+(i:Nat)*1) ((n:Int)-(i:Nat)) 1) where
 mem:=by simp
 obj:=fun i h st b hb=>by
  have e:b=it:=by simpa using hb
  subst e
  exact⟨_,st,fun v z=>by
   have z':Data.fields _=Data.cell v:=z
   cases z'⟩
 keep:=fun i h h' st k=>k it (by simp) _ st
 item:=by
  intro X hP hw hK hc i pins s σ H E I hf st hg
  subst hP hw hK
  obtain⟨f0,f1,f2,f3,f4,f5⟩:=hf it (by simp)
  have W:=Walks.range (prog:=X.prog) (w:=X.w) (I.ok.hd hc) it lo 1 n
  refine W.item i s _ _ hg st fun v h' tk hv st' kk=>?_
  obtain⟨t,rfl⟩:=hv
  have I1:Inv X pins σ H { s with heap:=h',toks:=tk }:=I.turned (fun b o hb e=>kk b o (by simpa using hb) e) f0 f1 f3 f4 f5
  refine⟨_,rfl,Zhu (s:={ s with heap:=h',toks:=tk }) (n:="range_iterator") st' rfl rfl (by decide) ⟨.int (lo+i),H,I1,⟨t,?_⟩,⟨rfl,rfl⟩,st',fun b hb=>(hf b hb).1⟩⟩
  rw[Int.mul_one]
 done:=by
  intro X hP hw hK hc i pins s σ H E I hf st hg
  subst hP hw hK
  obtain⟨f0,f1,f2,f3,f4,f5⟩:=hf it (by simp)
  exact wpAny_pyNext_range_end (I.ok.hd hc) st (by have:n≤i:=hg;omega) fun h' eb=>⟨rfl,I.turned (t':=s.toks) (fun b o hb e=>eb b o hb e) f0 f1 f3 f4 f5⟩
 self:=fun _ _ _ _ _ st h=>wpAny_pyIter_rangeiter st h
section
variable {X:Cx}{tg:Expr}
def ZjU (K:PySem.W.Frag)(tl:TE):TI:=fun σ H R=>tl σ H fun x H1=>∃a,x=.ref a∧(∃xs,SqL K H1 a xs)∧R (Itl K a) H1
def iTup (K:PySem.W.Frag)(tl:TE):TI:=fun σ H R=>tl σ H fun x H1=>∃a,x=.ref a∧(∃xs,SqT K H1 a xs)∧R (Itt K a) H1
theorem Zjz {l:Expr}{tl:TE}(hl:PE X l tl):PI X tg l (ZjU X.K tl):=by
 intro pins s σ H R I h
 refine thn (hl pins s σ H _ I h) fun v s1 ⟨x,H1,I1,r1,q1⟩=>?_
 obtain⟨a,e,⟨xs,hq⟩,q⟩:=q1
 subst e
 cases r1
 obtain⟨its,rv,p,hz⟩:=I1.list hq
 refine wpAny_pyIter_list p.isList ?_
 refine⟨s1.heap.objs.size,[s1.heap.objs.size],_,_,H1,rfl,I1.kept (t':=s1.toks) fun b o e=>Heap.get?_push_of_some _ e,ZgE a _,⟨_,Heap.get?_push_size _ rfl,rfl,rfl⟩,fun b hb=>?_,q⟩
 have e:b=s1.heap.objs.size:=by simpa using hb
 subst e
 exact I1.fpOk (Nat.le_refl _) (I1.hok.fresh (Nat.le_refl _))
theorem Zfs {pins:List (Addr×Obj)}{σ:St}{H:Hp}{s:Shared}{R:It→Hp→Prop}{E:Value→Shared→Prop}{lo hi:Int}{t u v:Tok}{tk:Nat}(I:Inv X pins σ H s)(h1:-(2 ^ 62)≤lo)(h2:lo<2 ^ 62)(h3:-(2 ^ 62)≤hi)(h4:hi<2 ^ 62)
  (q:R (Itr lo (hi-lo).toNat) H):wpAny (model X.prog X.w) X.A (pyIter (.ref s.heap.objs.size)) (PIE X pins σ tg R) E { s with heap:=s.heap.push { cls:=.type "range",data:=.fields #[.int lo t,.int hi u,.int 1 v] },toks:=tk }:=by
 refine wpAny_pyIter_range (IsRange.new ..) (small_one h1 h2 h3 h4) ?_
 have I1:Inv X pins σ H { s with heap:=s.heap.push { cls:=.type "range",data:=.fields #[.int lo t,.int hi u,.int 1 v] },toks:=tk }:=I.kept fun b o e=>Heap.get?_push_of_some _ e
 refine⟨(s.heap.push { cls:=.type "range",data:=.fields #[.int lo t,.int hi u,.int 1 v] }).objs.size,[(s.heap.push { cls:=.type "range",data:=.fields #[.int lo t,.int hi u,.int 1 v] }).objs.size],_,_,H,rfl,
  I1.kept (t':=tk) fun b o e=>Heap.get?_push_of_some _ e,ZfZ _ lo (hi-lo).toNat,?_,fun b hb=>?_,q⟩
 ·have e1:lo+((0:Nat):Int)*1=lo:=by simp
  have e2:(((hi-lo).toNat:Nat):Int)-((0:Nat):Int)=Builtin.Range.rangeSize lo hi 1:=by rw[rangeSize_one];split<;>omega
  show IsRangeIter _ _ (lo+((0:Nat):Int)*1) ((((hi-lo).toNat:Nat):Int)-((0:Nat):Int)) 1
  rw[e1,e2]
  exact Heap.get?_push_size _ rfl
 ·have e:b=(s.heap.push { cls:=.type "range",data:=.fields #[.int lo t,.int hi u,.int 1 v] }).objs.size:=by simpa using hb
  subst e
  exact I1.fpOk (Nat.le_refl _) (I1.hok.fresh (Nat.le_refl _))
def Zlx (ta:TA):TI:=fun σ H R=>ta σ H fun vs H1=>∃j:Int,vs=[.int j]∧-(2 ^ 62)≤j∧j<2 ^ 62∧R (Itr 0 j.toNat) H1
def Zlw (ta:TA):TI:=fun σ H R=>ta σ H fun vs H1=>∃i j:Int,vs=[.int i,.int j]∧(-(2 ^ 62)≤i∧i<2 ^ 62∧-(2 ^ 62)≤j∧j<2 ^ 62)∧R (Itr i (j-i).toNat) H1
theorem ZbP {a:Expr} {ta:TA} {p pos:Pos} (hg:Gl X "range") (hm:X.mg "range"=none) (ha:PA X [a] ta) (hs:starEach [a] X.env=[(false,eval a X.env)]:=by rfl):PI X tg (.Call (.Name "range" p) [a] [] pos) (Zlx ta):=by
 intro pins s σ H R I h
 refine Call_ (Zc6 I hg hm boot_range (PyProof.Rows.callWith_type1 (thn (ha pos pins s σ H _ I h) fun us s1 ⟨vs,H1,I1,r1,q1⟩=>?_) hs rfl))
 obtain⟨j,e,q1,q2,q⟩:=q1
 subst e
 cases r1 with
 | cons r rr=>
  cases rr
  obtain⟨t,rfl⟩:=r
  exact call_range_1 (Zfs I1 (by omega) (by omega) q1 q2 (by simpa using q))
theorem Zcs {a b:Expr} {ta:TA} {p pos:Pos} (hg:Gl X "range") (hm:X.mg "range"=none) (ha:PA X [a,b] ta) (hs:starEach [a,b] X.env=[(false,eval a X.env),(false,eval b X.env)]:=by rfl) (hs2:starEach [b] X.env=[(false,eval b X.env)]:=by rfl):
  PI X tg (.Call (.Name "range" p) [a,b] [] pos) (Zlw ta):=by
 intro pins s σ H R I h
 refine Call_ (Zc6 I hg hm boot_range (PyProof.Rows.callWith_type1 (thn (ha pos pins s σ H _ I h) fun us s1 ⟨vs,H1,I1,r1,q1⟩=>?_) (by rw[hs,hs2]) (by rw[hs2];rfl)))
 obtain⟨i,j,e,⟨q1,q2,q3,q4⟩,q⟩:=q1
 subst e
 cases r1 with
 | cons r rr=>
  cases rr with
  | cons r' rr=>
   cases rr
   obtain⟨t,rfl⟩:=r
   obtain⟨t',rfl⟩:=r'
   exact call_range_2 (Zfs I1 q1 q2 q3 q4 q)
def tFor (wi:TI)(g:TG)(tb:TS):TS:=fun D σ H=>wi σ H fun J H1=>∃W:Nat→Nat→St→Hp→Prop,(∃m,W 0 m σ H1)∧∀i m σ H,W i m σ H →
 (J.stop i H∧D.nx σ H)∨(J.go i H∧∃N:St→Hp→Prop,(∀σ' H',N σ' H'→∃m',m'<m∧W (i+1) m' σ' H')∧∀x H',J.yld i H x H'→g x σ H' fun σ2 H2=>tb { D with nx:=N,ct:=N,bk:=D.nx } σ2 H2)
def Zd5 (fp:List Addr)(h:Heap):List (Addr×Obj):=fp.filterMap fun b=>(h.get? b).map fun o=>(b,o)
theorem Zbz {fp:List Addr}{h:Heap}{b:Addr}{o:Obj}(hb:b∈fp)(e:h.get? b=some o):(b,o)∈Zd5 fp h:=List.mem_filterMap.mpr ⟨b,hb,by rw[e];rfl⟩
theorem Zg6 {fp:List Addr}{h:Heap}{p:Addr×Obj}(hp:p∈Zd5 fp h):p.1∈fp∧h.get? p.1=some p.2:=by
 obtain⟨b,hb,e⟩:=List.mem_filterMap.mp hp
 cases q:h.get? b with
 | none=>rw[q]at e;cases e
 | some o=>
  rw[q]at e
  have e':(b,o)=p:=Option.some.inj e
  subst e'
  exact⟨hb,q⟩
theorem Inv.pinned {pins:List (Addr×Obj)}{σ:St}{H:Hp}{s:Shared}{fp:List Addr}(I:Inv X pins σ H s)(hf:∀b∈fp,FpOk X pins H b)(ho:∀b∈fp,∃o,s.heap.get? b=some o∧∀v,o.data≠.cell v):Inv X (pins++Zd5 fp s.heap) σ H s:=
 I.pins_of fun p hp=>(List.mem_append.mp hp).elim (fun z=>I.pin p (List.mem_append_right _ z)) fun z=>by
  obtain⟨hb,e⟩:=Zg6 z
  obtain⟨f0,f1,f2,_⟩:=hf p.1 hb
  obtain⟨o,e',d⟩:=ho p.1 hb
  rw[e]at e';cases e'
  exact⟨e,f0,f1,f2,d⟩
theorem Inv.unpinned {pins pl:List (Addr×Obj)}{σ:St}{H:Hp}{s:Shared}(I:Inv X (pins++pl) σ H s):Inv X pins σ H s:=I.pins_of fun p hp=>I.pin p (List.mem_append_right _ (List.mem_append_left _ hp))
theorem ZaM {iter:Expr}{body:List Stmt}{wi:TI}{g:TG}{tb:TS}{pos:Pos}(hp:PassesOwn (model X.prog X.w) X.A X.env X.xe)(hc:X.calm=true)(hi:PI X tg iter wi)(hg:PG X tg g)(hb:PSs X body tb)
  (hs:∀x,foldedSetIterable iter X.env x=pure x:=by intro _;rfl):PS X (.For tg iter body [] pos) (tFor wi g tb):=by
 intro pins s σ H D I h
 refine wpAny_For (thn (hi pins s σ H _ I h) fun v s1 h1=>thn h1 fun itv s2 h2=>?_) hs
 obtain⟨it,fp,tn,J,H2,e,I2,T,st2,f2,W,⟨m0,w0⟩,turn⟩:=h2
 subst e
 have stat:∀ {H':Hp},(∀b∈fp,H' b=none)→∀b∈fp,FpOk X pins H' b:=fun hn b hb=>⟨hn b hb,(f2 b hb).2⟩
 refine codeAny_forLoop_any (fun n s'=>∃i σ' H',Inv X pins σ' H' s'∧tn i s'.heap∧(∀b∈fp,H' b=none)∧W i n σ' H') ?_ m0 ⟨0,σ,H2,I2,st2,fun b hb=>(f2 b hb).1,w0⟩
 rintro n s3 ⟨i,σ3,H3,I3,st3,fr3,w3⟩
 rcases turn i n σ3 H3 w3 with⟨stop,qn⟩|⟨go,N,hN,step⟩
 ·refine wpAny_passesOwn hp (thn (T.done X rfl rfl rfl hc i pins s3 σ3 H3 X.xe I3 (stat fr3) st3 stop) fun r s4 ⟨hr,I4⟩=>?_)
  subst hr
  exact wpAny_execs_nil ⟨σ3,H3,I4,qn⟩
 ·refine wpAny_passesOwn hp (thn (T.item X rfl rfl rfl hc i pins s3 σ3 H3 X.xe I3 (stat fr3) st3 go) fun r s4 ⟨u,hr,h4⟩=>?_)
  subst hr
  refine wpAny_passesOwn hp (thn h4 fun _ s5 ⟨x,H5,I5,r5,y5,st5,fr5⟩=>?_)
  have I5':=I5.pinned (stat fr5) (T.obj _ _ st5)
  refine wpAny_passesOwn hp (thn (hg _ s5 σ3 H5 x u _ I5' r5 (step x H5 y5)) fun _ s6 ⟨σ6,H6,I6,q6⟩=>?_)
  refine wpAny_passesOwn hp (thn (hb _ s6 σ6 H6 _ I6 q6) fun f s7 q7=>?_)
  have again:∀ {σ7:St} {H7:Hp},Inv X (pins++Zd5 fp s5.heap) σ7 H7 s7→N σ7 H7→∃m,m<n∧∃i σ' H',Inv X pins σ' H' s7∧tn i s7.heap∧(∀b∈fp,H' b=none)∧W i m σ' H':=fun {σ7 H7} I7 n7=>by
   obtain⟨m',hm,w7⟩:=hN σ7 H7 n7
   refine⟨m',hm,i+1,σ7,H7,I7.unpinned,T.keep _ _ _ st5 fun b hb o e=>(I7.pin (b,o) (List.mem_append_right _ (List.mem_append_right _ (Zbz hb e)))).1,fun b hb=>?_,w7⟩
   obtain⟨o,e,d⟩:=T.obj _ _ st5 b hb
   exact(I7.pin (b,o) (List.mem_append_right _ (List.mem_append_right _ (Zbz hb e)))).2.1
  cases f with
  | next=>obtain⟨σ7,H7,I7,n7⟩:=q7;exact again I7 n7
  | cont=>obtain⟨σ7,H7,I7,n7⟩:=q7;exact again I7 n7
  | brk=>obtain⟨σ7,H7,I7,q7⟩:=q7;exact⟨σ7,H7,I7.unpinned,q7⟩
  | ret v=>obtain⟨x7,σ7,H7,I7,r7,q7⟩:=q7;exact⟨x7,σ7,H7,I7.unpinned,r7,q7⟩
end
theorem Zir {K:PySem.W.Frag}{a:Addr}{xs:List V}{g:TG}{tb:TS}{D:Ends}{σ:St}{H:Hp}(Pv:Nat→St→Hp→Prop)(h0:Pv 0 σ H)(hl:∀i σ H,i≤xs.length→Pv i σ H→SqL K H a xs)
  (hs:∀i x σ H,xs[i]?=some x→Pv i σ H→g x σ H fun σ2 H2=>tb { D with nx:=Pv (i+1),ct:=Pv (i+1),bk:=D.nx } σ2 H2) (hd:∀σ H,Pv xs.length σ H→D.nx σ H):
  ∃W:Nat→Nat→St→Hp→Prop,(∃m,W 0 m σ H)∧∀i m σ H,W i m σ H →
   ((Itl K a).stop i H∧D.nx σ H)∨((Itl K a).go i H∧∃N:St→Hp→Prop,(∀σ' H',N σ' H'→∃m',m'<m∧W (i+1) m' σ' H')∧∀x H',(Itl K a).yld i H x H'→g x σ H' fun σ2 H2=>tb { D with nx:=N,ct:=N,bk:=D.nx } σ2 H2):=by
 refine⟨fun i m σ H=>m=xs.length-i∧i≤xs.length∧Pv i σ H,⟨xs.length,by simp,Nat.zero_le _,h0⟩,?_⟩
 rintro i m σ H ⟨rfl,hi,p⟩
 have q:=hl i σ H hi p
 by_cases hlt:i<xs.length
 ·refine .inr ⟨⟨xs,xs[i],q,by simp[hlt]⟩,Pv (i+1),fun σ' H' p'=>⟨xs.length-(i+1),by omega,rfl,hlt,p'⟩,fun x H' y=>?_⟩
  obtain⟨e,y⟩:=y
  subst e
  exact hs i x σ _ (y xs q) p
 ·have e:i=xs.length:=by omega
  subst e
  exact .inl ⟨⟨xs,q,Nat.le_refl _⟩,hd σ H p⟩
theorem Zhv {lo:Int}{n:Nat}{g:TG}{tb:TS}{D:Ends}{σ:St}{H:Hp}(Pv:Nat→St→Hp→Prop)(h0:Pv 0 σ H)
  (hs:∀i σ H,i<n→Pv i σ H→g (.int (lo+i)) σ H fun σ2 H2=>tb { D with nx:=Pv (i+1),ct:=Pv (i+1),bk:=D.nx } σ2 H2) (hd:∀σ H,Pv n σ H→D.nx σ H):
  ∃W:Nat→Nat→St→Hp→Prop,(∃m,W 0 m σ H)∧∀i m σ H,W i m σ H →
   ((Itr lo n).stop i H∧D.nx σ H)∨((Itr lo n).go i H∧∃N:St→Hp→Prop,(∀σ' H',N σ' H'→∃m',m'<m∧W (i+1) m' σ' H')∧∀x H',(Itr lo n).yld i H x H'→g x σ H' fun σ2 H2=>tb { D with nx:=N,ct:=N,bk:=D.nx } σ2 H2):=by
 refine⟨fun i m σ H=>m=n-i∧i≤n∧Pv i σ H,⟨n,by simp,Nat.zero_le _,h0⟩,?_⟩
 rintro i m σ H ⟨rfl,hi,p⟩
 by_cases hlt:i<n
 ·refine .inr ⟨hlt,Pv (i+1),fun σ' H' p'=>⟨n-(i+1),by omega,rfl,hlt,p'⟩,fun x H' y=>?_⟩
  obtain⟨e,y⟩:=y
  subst e y
  exact hs i σ _ hlt p
 ·have e:i=n:=by omega
  subst e
  exact .inl ⟨Nat.le_refl _,hd σ H p⟩
abbrev R2:=V→V→Hp→VK→Prop
def OpR (X:Cx)(f:Value→Value→Sem Value)(r:R2):Prop:=
 ∀(pins:List (Addr×Obj)) (s:Shared) (σ:St) (H:Hp) (x y:V) (v u:Value) (Q:VK),Inv X pins σ H s→RelV x v→RelV y u→r x y H Q →
  wpAny (model X.prog X.w) X.A (f v u) (EP X pins σ Q) X.xe s
def UnR (X:Cx)(f:Value→Sem Value)(r:V→Hp→VK→Prop):Prop:=
 ∀(pins:List (Addr×Obj)) (s:Shared) (σ:St) (H:Hp) (x:V) (v:Value) (Q:VK),Inv X pins σ H s→RelV x v→r x H Q →
  wpAny (model X.prog X.w) X.A (f v) (EP X pins σ Q) X.xe s
def ZbC (X:Cx)(f:Value)(r:List V→Hp→VK→Prop):Prop:=
 ∀(pins:List (Addr×Obj)) (s:Shared) (σ:St) (H:Hp) (xs:List V) (us:List Value) (Q:VK),Inv X pins σ H s→Vals xs us→r xs H Q →
  wpAny (model X.prog X.w) X.A (call f us) (EP X pins σ Q) X.xe s
def TruR (X:Cx)(r:V→Hp→(Bool→Hp→Prop)→Prop):Prop:=
 ∀(pins:List (Addr×Obj)) (s:Shared) (σ:St) (H:Hp) (x:V) (v:Value) (Q:Bool→Hp→Prop),Inv X pins σ H s→RelV x v→r x H Q →
  wpAny (model X.prog X.w) X.A (truthy v) (TP X pins σ Q) X.xe s
def tOp (r:R2)(ta tb:TE):TE:=fun σ H Q=>ta σ H fun x H1=>tb σ H1 fun y H2=>r x y H2 Q
def tUn (r:V→Hp→VK→Prop)(ta:TE):TE:=fun σ H Q=>ta σ H fun x H1=>r x H1 Q
def rI (C:Int→Int→Prop)(g:Int→Int→V):R2:=fun x y H Q=>∃i j,x=.int i∧y=.int j∧C i j∧Q (g i j) H
def rI0 (g:Int→Int→V):R2:=fun x y H Q=>∃i j,x=.int i∧y=.int j∧Q (g i j) H
def rU (g:Int→V):V→Hp→VK→Prop:=fun x H Q=>∃i,x=.int i∧Q (g i) H
section
variable {X:Cx}{a b c:Expr}{ta tb tc:TE}{pos:Pos}
theorem binT (ha:PE X a ta)(hb:PE X b tb){pins:List (Addr×Obj)}{s:Shared}{σ:St}{H:Hp}{R:V→V→Hp→Prop}(I:Inv X pins σ H s)
  (h:ta σ H fun x H1=>tb σ H1 fun y H2=>R x y H2) {Q:Value→Shared→Prop} {f:Value→Value→Sem Value}
  (hf:∀v u s2 x y H2,Inv X pins σ H2 s2→RelV x v→RelV y u→R x y H2→wpAny (model X.prog X.w) X.A (f v u) Q X.xe s2):
  wpAny (model X.prog X.w) X.A (eval a X.env) (fun v s₁=>wpAny (model X.prog X.w) X.A (eval b X.env) (fun u s₂=>wpAny (model X.prog X.w) X.A (f v u) Q X.xe s₂) X.xe s₁) X.xe s:=by
 refine thn (ha pins s σ H _ I h) fun v s1 ⟨x,H1,I1,r1,q1⟩=>?_
 refine thn (hb pins s1 σ H1 _ I1 q1) fun u s2 ⟨y,H2,I2,r2,q2⟩=>?_
 exact hf v u s2 x y H2 I2 r1 r2 q2
theorem Zat {op:Operator}{r:R2}(ho:OpR X (binaryOp op) r)(ha:PE X a ta)(hb:PE X b tb):PE X (.BinOp a op b pos) (tOp r ta tb):=by
 intro pins s σ H Q I h
 exact wpAny_BinOp (binT ha hb I h fun v u s2 x y H2 I2 rx ry q=>ho pins s2 σ H2 x y v u Q I2 rx ry q)
theorem ZmR {op:UnaryOp}{r:V→Hp→VK→Prop}(ho:UnR X (unaryOp op) r)(ha:PE X a ta):PE X (.UnaryOp op a pos) (tUn r ta):=by
 intro pins s σ H Q I h
 exact UnaryOp_ (thn (ha pins s σ H _ I h) fun v s1 ⟨x,H1,I1,r1,q1⟩=>ho pins s1 σ H1 x v Q I1 r1 q1)
theorem opI {f:Value→Value→Sem Value}{C:Int→Int→Prop}{g:Int→Int→Int}
  (rule:∀(i j:Int) (t u:Tok) (s:Shared) (Q:Value→Shared→Prop) (E:Value→Shared→Prop),C i j→Q (.int (g i j) s.toks) { s with toks:=s.toks+1 }→wpAny (model X.prog X.w) X.A (f (.int i t) (.int j u)) Q E s):
  OpR X f (rI C fun i j=>.int (g i j)):=by
 intro pins s σ H x y v u Q I rx ry h
 obtain⟨i,j,rfl,rfl,hc,q⟩:=h
 obtain⟨t,rfl⟩:=rx
 obtain⟨t',rfl⟩:=ry
 exact rule i j t t' s _ _ hc ⟨.int (g i j),H,I.tok _,⟨_,rfl⟩,q⟩
theorem opI0 {f:Value→Value→Sem Value}{g:Int→Int→Int}
  (rule:∀(i j:Int) (t u:Tok) (s:Shared) (Q:Value→Shared→Prop) (E:Value→Shared→Prop),Q (.int (g i j) s.toks) { s with toks:=s.toks+1 }→wpAny (model X.prog X.w) X.A (f (.int i t) (.int j u)) Q E s):
  OpR X f (rI0 fun i j=>.int (g i j)):=by
 intro pins s σ H x y v u Q I rx ry h
 obtain⟨i,j,rfl,rfl,q⟩:=h
 obtain⟨t,rfl⟩:=rx
 obtain⟨t',rfl⟩:=ry
 exact rule i j t t' s _ _ ⟨.int (g i j),H,I.tok _,⟨_,rfl⟩,q⟩
theorem opB0 {f:Value→Value→Sem Value}{g:Int→Int→Bool}
  (rule:∀(i j:Int) (t u:Tok) (s:Shared) (Q:Value→Shared→Prop) (E:Value→Shared→Prop),Q (.bool (g i j)) s→wpAny (model X.prog X.w) X.A (f (.int i t) (.int j u)) Q E s):
  OpR X f (rI0 fun i j=>.bl (g i j)):=by
 intro pins s σ H x y v u Q I rx ry h
 obtain⟨i,j,rfl,rfl,q⟩:=h
 obtain⟨t,rfl⟩:=rx
 obtain⟨t',rfl⟩:=ry
 exact rule i j t t' s _ _ ⟨.bl (g i j),H,I,rfl,q⟩
def CDiv (i j:Int):Prop:=0<j∧j<1073741824
def CMul (i j:Int):Prop:=(-(2 ^ 64)<i∧i<2 ^ 64)∨(-(2 ^ 64)<j∧j<2 ^ 64)
theorem CMul.ok {i j:Int}(h:CMul i j):IntMulOk i j:=by
 rcases h with⟨h1,h2⟩|⟨h1,h2⟩
 ·exact .of_left (intBits_le_64 h1 h2)
 ·exact .of_right (intBits_le_64 h1 h2)
theorem ZaY:OpR X (binaryOp .Add) (rI0 fun i j=>.int (i+j)):=opI0 fun _ _ _ _ _ _ _ q=>add_int q
theorem ZkX:OpR X (binaryOp .Sub) (rI0 fun i j=>.int (i-j)):=opI0 fun _ _ _ _ _ _ _ q=>sub_int q
theorem Zc4:OpR X (binaryOp .Mult) (rI CMul fun i j=>.int (i*j)):=opI fun _ _ _ _ _ _ _ hc q=>mul_int q hc.ok
theorem ZjD:OpR X (binaryOp .FloorDiv) (rI CDiv fun i j=>.int (i/j)):=opI fun i j _ _ _ _ _ hc q=>by
 have h1:(0:Int)<j:=hc.1
 have h2:j<1073741824:=hc.2
 exact floordiv_int (by omega) (by rw[Int.fdiv_eq_ediv_of_nonneg i (by omega)];exact q) (.inl (PyProof.noPylong_small (by omega)))
theorem ZaS:OpR X (binaryOp .Mod) (rI (fun _ j=>0<j) fun i j=>.int (i % j)):=opI fun i j _ _ _ _ _ hc q=>by
 have h1:(0:Int)<j:=hc
 exact mod_int' (by omega) (by rw[Int.fmod_eq_emod_of_nonneg i (by omega)];exact q)
theorem unI {f:Value→Sem Value}{g:Int→Int}
  (rule:∀(i:Int) (t:Tok) (s:Shared) (Q:Value→Shared→Prop) (E:Value→Shared→Prop),Q (.int (g i) s.toks) { s with toks:=s.toks+1 }→wpAny (model X.prog X.w) X.A (f (.int i t)) Q E s):
  UnR X f (rU fun i=>.int (g i)):=by
 intro pins s σ H x v Q I rx h
 obtain⟨i,rfl,q⟩:=h
 obtain⟨t,rfl⟩:=rx
 exact rule i t s _ _ ⟨.int (g i),H,I.tok _,⟨_,rfl⟩,q⟩
theorem Zki:UnR X (unaryOp .USub) (rU fun i=>.int (-i)):=unI fun _ _ _ _ _ q=>neg_int q
end
def scal:V→V→Bool
 | .non,.non=>true | .non,.int _=>true | .int _,.non=>true | .non,.bl _=>true | .bl _,.non=>true | .non,.str _=>true | .str _,.non=>true
 | .int _,.int _=>true | .bl _,.bl _=>true | .str _,.str _=>true | .byt _,.byt _=>true
 | .int _,.str _=>true | .str _,.int _=>true | .bl _,.str _=>true | .str _,.bl _=>true
 | _,_=>false
def rEq:R2:=fun x y H Q=>scal x y=true∧Q (.bl (decide (x=y))) H
def rNe:R2:=fun x y H Q=>scal x y=true∧Q (.bl (!decide (x=y))) H
theorem ZhC {i j:Int}:decide (V.int i=V.int j)=(i == j):=by
 rw[Bool.eq_iff_iff]
 simp
theorem Zi0 {i j:Bool}:decide (V.bl i=V.bl j)=(i == j):=by
 rw[Bool.eq_iff_iff]
 simp
theorem ZhB {i j:Str}:decide (V.str i=V.str j)=(i == j):=by
 rw[Bool.eq_iff_iff]
 simp
theorem ZhD {i j:Array UInt8}:decide (V.byt i=V.byt j)=(i.toList == j.toList):=by
 rw[Bool.eq_iff_iff]
 cases i
 cases j
 simp
section
variable {X:Cx}{a b c:Expr}{ta tb tc:TE}{pos:Pos}
theorem Zaz {pins:List (Addr×Obj)}{σ:St}{H:Hp}{s:Shared}{Q:VK}{k k':Bool}(I:Inv X pins σ H s)(q:Q (.bl k) H)(e:k=k'):EP X pins σ Q (.bool k') s:=by
 subst e
 exact⟨.bl k,H,I,rfl,q⟩
theorem ZmU:OpR X (compareOp .Eq) rEq:=by
 intro pins s σ H x y v u Q I rx ry h
 obtain⟨hs,q⟩:=h
 cases x with
 | non=>
  cases rx
  cases y with
  | non=>cases ry;exact PySem.EqNone.eq_none_none (Zaz I q (by simp))
  | bl j=>cases ry;exact PySem.EqNone.eq_none_bool (Zaz I q (by simp))
  | int j=>obtain⟨t',rfl⟩:=ry;exact PySem.EqNone.eq_none_int (Zaz I q (by simp))
  | str j=>obtain⟨t',rfl⟩:=ry;exact PySem.EqNone.eq_none_str (Zaz I q (by simp))
  | _=>exact absurd (show false=true from hs) Bool.false_ne_true
 | bl i=>
  cases rx
  cases y with
  | non=>cases ry;exact PySem.EqNone.eq_bool_none (Zaz I q (by simp))
  | bl j=>cases ry;exact eq_bool (Zaz I q Zi0)
  | str j=>obtain⟨t',rfl⟩:=ry;exact PySem.EqMixed.eq_bool_str (Zaz I q (by simp))
  | _=>exact absurd (show false=true from hs) Bool.false_ne_true
 | int i=>
  obtain⟨t,rfl⟩:=rx
  cases y with
  | non=>cases ry;exact PySem.EqNone.eq_int_none (Zaz I q (by simp))
  | int j=>obtain⟨t',rfl⟩:=ry;exact eq_int (Zaz I q ZhC)
  | str j=>obtain⟨t',rfl⟩:=ry;exact PySem.EqMixed.eq_int_str (Zaz I q (by simp))
  | _=>exact absurd (show false=true from hs) Bool.false_ne_true
 | str i=>
  obtain⟨t,rfl⟩:=rx
  cases y with
  | non=>cases ry;exact PySem.EqNone.eq_str_none (Zaz I q (by simp))
  | bl j=>cases ry;exact PySem.EqMixed.eq_str_bool (Zaz I q (by simp))
  | int j=>obtain⟨t',rfl⟩:=ry;exact PySem.EqMixed.eq_str_int (Zaz I q (by simp))
  | str j=>obtain⟨t',rfl⟩:=ry;exact eq_str (Zaz I q ZhB)
  | _=>exact absurd (show false=true from hs) Bool.false_ne_true
 | byt i=>
  obtain⟨t,rfl⟩:=rx
  cases y with
  | byt j=>obtain⟨t',rfl⟩:=ry;exact PySem.W.eq_bytes (Zaz I q ZhD)
  | _=>exact absurd (show false=true from hs) Bool.false_ne_true
 | _=>cases y<;>exact absurd (show false=true from hs) Bool.false_ne_true
theorem ZmS:OpR X (compareOp .NotEq) rNe:=by
 intro pins s σ H x y v u Q I rx ry h
 obtain⟨hs,q⟩:=h
 cases x with
 | non=>
  cases rx
  cases y with
  | non=>cases ry;exact PySem.EqNone.ne_none_none (Zaz I q (by simp))
  | bl j=>cases ry;exact PySem.EqNone.ne_none_bool (Zaz I q (by simp))
  | int j=>obtain⟨t',rfl⟩:=ry;exact PySem.EqNone.ne_none_int (Zaz I q (by simp))
  | str j=>obtain⟨t',rfl⟩:=ry;exact PySem.EqNone.ne_none_str (Zaz I q (by simp))
  | _=>exact absurd (show false=true from hs) Bool.false_ne_true
 | bl i=>
  cases rx
  cases y with
  | non=>cases ry;exact PySem.EqNone.ne_bool_none (Zaz I q (by simp))
  | bl j=>cases ry;exact ne_bool (Zaz I q (congrArg not Zi0))
  | str j=>obtain⟨t',rfl⟩:=ry;exact PySem.EqMixed.ne_bool_str (Zaz I q (by simp))
  | _=>exact absurd (show false=true from hs) Bool.false_ne_true
 | int i=>
  obtain⟨t,rfl⟩:=rx
  cases y with
  | non=>cases ry;exact PySem.EqNone.ne_int_none (Zaz I q (by simp))
  | int j=>obtain⟨t',rfl⟩:=ry;exact ne_int (Zaz I q (congrArg not ZhC))
  | str j=>obtain⟨t',rfl⟩:=ry;exact PySem.EqMixed.ne_int_str (Zaz I q (by simp))
  | _=>exact absurd (show false=true from hs) Bool.false_ne_true
 | str i=>
  obtain⟨t,rfl⟩:=rx
  cases y with
  | non=>cases ry;exact PySem.EqNone.ne_str_none (Zaz I q (by simp))
  | bl j=>cases ry;exact PySem.EqMixed.ne_str_bool (Zaz I q (by simp))
  | int j=>obtain⟨t',rfl⟩:=ry;exact PySem.EqMixed.ne_str_int (Zaz I q (by simp))
  | str j=>obtain⟨t',rfl⟩:=ry;exact ne_str (Zaz I q (congrArg not ZhB))
  | _=>exact absurd (show false=true from hs) Bool.false_ne_true
 | byt i=>
  obtain⟨t,rfl⟩:=rx
  cases y with
  | byt j=>obtain⟨t',rfl⟩:=ry;exact PySem.W.ne_bytes (Zaz I q (congrArg not ZhD))
  | _=>exact absurd (show false=true from hs) Bool.false_ne_true
 | _=>cases y<;>exact absurd (show false=true from hs) Bool.false_ne_true
theorem ZjC:OpR X (compareOp .Lt) (rI0 fun i j=>.bl (decide (i<j))):=opB0 fun _ _ _ _ _ _ _ q=>lt_int q
theorem ZmT:OpR X (compareOp .LtE) (rI0 fun i j=>.bl (decide (i≤j))):=opB0 fun _ _ _ _ _ _ _ q=>le_int q
theorem Zgc:OpR X (compareOp .Gt) (rI0 fun i j=>.bl (decide (j<i))):=opB0 fun _ _ _ _ _ _ _ q=>gt_int q
theorem Zea:OpR X (compareOp .In) (fun x y H Q=>∃i j,x=.str i∧y=.str j∧Q (.bl (!(Builtin.Str.occurrences j i 0 j.length 1).isEmpty)) H):=by
 intro pins s σ H x y v u Q I rx ry h
 obtain⟨i,j,rfl,rfl,q⟩:=h
 obtain⟨t,rfl⟩:=rx
 obtain⟨t',rfl⟩:=ry
 exact in_str (Zaz I q rfl)
theorem ZaH (b:Expr){op:CmpOp}(h:op≠.In:=by decide)(h2:op≠.NotIn:=by decide):behindInMarks op b=false:=by
 have e1:(op == CmpOp.In)=false:=by cases op<;>first | rfl | exact absurd rfl h
 have e2:(op == CmpOp.NotIn)=false:=by cases op<;>first | rfl | exact absurd rfl h2
 cases b<;>simp[behindInMarks,e1,e2]
theorem ZbH {op:CmpOp}{r:R2}(ho:OpR X (compareOp op) r)(ha:PE X a ta)(hb:PE X b tb)(hm:behindInMarks op b=false):PE X (.Compare a [op] [b] pos) (tOp r ta tb):=by
 intro pins s σ H Q I h
 exact wpAny_Compare1 (binT ha hb I h fun v u s2 x y H2 I2 rx ry q=>ho pins s2 σ H2 x y v u Q I2 rx ry q) hm
def Zko (t:TE):TT:=fun σ H Q=>t σ H fun x H'=>∃k,x=.bl k∧Q k H'
theorem Zaw {op:CmpOp}{r:R2}(ho:OpR X (compareOp op) r)(ha:PE X a ta)(hb:PE X b tb)(hm:behindInMarks op b=false):PT X (.Compare a [op] [b] pos) (Zko (tOp r ta tb)):=by
 intro pins s σ H Q I h
 refine wpAny_isTrue_Compare1 (thn (ha pins s σ H _ I h) fun v s1 ⟨x,H1,I1,r1,q1⟩=>thn (hb pins s1 σ H1 _ I1 q1) fun u s2 ⟨y,H2,I2,r2,q2⟩=>
  thn (ho pins s2 σ H2 x y v u _ I2 r1 r2 q2) fun c s3 ⟨z,H3,I3,r3,k,e,q3⟩=>?_) hm
 subst e
 cases r3
 exact wpAny_truthy_bool ⟨H3,I3,q3⟩
def ZkE (r r':R2)(ta tb tc:TE):TE:=fun σ H Q=>ta σ H fun x H1=>tb σ H1 fun y H2=>r x y H2 fun z H3=>∃k,z=.bl k ∧
 (if k=true then tc σ H3 fun w' H4=>r' y w' H4 Q else Q (.bl false) H3)
def TruV (K:PySem.W.Frag)(x:V)(H:Hp)(k:Bool):Prop:=
 match x with
 | .non=>k=false
 | .bl b=>k=b
 | .int i=>k=(i != 0)
 | .str y=>y.length≤sizeLine∧k=((y.length:Int) != 0)
 | .byt y=>y.size≤sizeLine∧k=((y.size:Int) != 0)
 | .ref p=>(∃xs,SqL K H p xs∧k=!xs.isEmpty)∨(∃xs,SqT K H p xs∧k=!xs.isEmpty)∨∃kvs,H p=some (.dK kvs)∧k=!kvs.isEmpty
 | _=>False
theorem Zgn {κ:Type}{kvs:List (κ×V)}{vs:List (κ×Value)}(r:KV kvs vs):(!vs.isEmpty)=!kvs.isEmpty:=by
 cases r<;>rfl
theorem Zda {xs:List V}{its:List Value}(r:Vals xs its):(!its.toArray.isEmpty)=!xs.isEmpty:=by
 cases r<;>simp
theorem ZfF:(sizeLine:Nat)<2 ^ 63:=by rw[sizeLine_eq];decide
theorem Znt:TruR X (fun x H Q=>∃k,TruV X.K x H k∧Q k H):=by
 intro pins s σ H x v Q I rx h
 obtain⟨k,e,q⟩:=h
 have hl:=ZfF
 have hs:sizeLine=16777216:=sizeLine_eq
 cases x with
 | non=>
  cases rx
  have e':k=false:=e
  subst e'
  exact truthy_none ⟨H,I,q⟩
 | bl b=>
  cases rx
  have e':k=b:=e
  subst e'
  exact wpAny_truthy_bool ⟨H,I,q⟩
 | int i=>
  obtain⟨t,rfl⟩:=rx
  have e':k=(i != 0):=e
  subst e'
  exact PySem.P.truthy_int ⟨H,I,q⟩
 | str y=>
  obtain⟨t,rfl⟩:=rx
  obtain⟨hy,e'⟩:y.length≤sizeLine∧k=((y.length:Int) != 0):=e
  subst e'
  exact PySem.P.truthy_str (by omega) ⟨H,I.tok _,q⟩
 | byt y=>
  obtain⟨t,rfl⟩:=rx
  obtain⟨hy,e'⟩:y.size≤sizeLine∧k=((y.size:Int) != 0):=e
  subst e'
  exact PySem.W.truthy_bytes (by omega) ⟨H,I.tok _,q⟩
 | ref p=>
  cases rx
  have e':(∃xs,SqL X.K H p xs∧k=!xs.isEmpty)∨(∃xs,SqT X.K H p xs∧k=!xs.isEmpty)∨∃kvs,H p=some (.dK kvs)∧k=!kvs.isEmpty:=e
  rcases e' with⟨xs,hx,e'⟩|⟨xs,hx,e'⟩|⟨kvs,hx,e'⟩
  ·subst e'
   obtain⟨its,r,pl,hz⟩:=I.list hx
   have hlen:=r.length
   exact wpAny_truthy_list pl.isList (by simp only[List.size_toArray];omega) ⟨H,I.tok _,by rw[Zda r];exact q⟩
  ·subst e'
   obtain⟨its,r,pl,hz⟩:=I.tuple hx
   have hlen:=r.length
   exact truthy_tuple pl (by simp only[List.size_toArray];omega) ⟨H,I.tok _,by rw[Zda r];exact q⟩
  ·subst e'
   obtain⟨hz,hS,vs,r,m⟩:kvs.length≤sizeLine∧(p == sysModules)=false∧∃vs,KV kvs vs∧s.heap.DictOf (Zao X.prog X.w) p vs:=I.hok p _ hx
   have hlen:kvs.length=vs.length:=Paired.length r
   exact wpAny_truthy_dict hS m (by omega) ⟨H,I.tok _,by rw[Zgn r];exact q⟩
 | _=>exact(show False from e).elim
theorem Zgd:OpR X (binaryOp .Add) (fun x y H Q=>∃i j,x=.str i∧y=.str j∧i.length+j.length≤sizeLine∧Q (.str (i++j)) H):=by
 intro pins s σ H x y v u Q I rx ry h
 obtain⟨i,j,rfl,rfl,hz,q⟩:=h
 obtain⟨t,rfl⟩:=rx
 obtain⟨t',rfl⟩:=ry
 exact add_str (fun t' tk=>⟨.str (i++j),H,I.tok _,⟨_,rfl⟩,q⟩) hz
theorem vals1 {x:V}{us:List Value}(r:Vals [x] us):∃u,us=[u]∧RelV x u:=by
 cases r with
 | cons r1 r2=>cases r2;exact⟨_,rfl,r1⟩
def LenV (K:PySem.W.Frag)(x:V)(H:Hp)(n:Nat):Prop:=
 match x with
 | .str y=>y.length≤sizeLine∧n=y.length
 | .byt y=>y.size≤sizeLine∧n=y.size
 | .ref p=>(∃xs,SqL K H p xs∧n=xs.length)∨∃xs,SqT K H p xs∧n=xs.length
 | _=>False
theorem ZiA:ZbC X (.builtin "len") (fun xs H Q=>∃x n,xs=[x]∧LenV X.K x H n∧Q (.int n) H):=by
 intro pins s σ H xs us Q I r h
 obtain⟨x,n,rfl,e,q⟩:=h
 obtain⟨u,rfl,rx⟩:=vals1 r
 have hl:=ZfF
 have hs:sizeLine=16777216:=sizeLine_eq
 cases x with
 | str y=>
  obtain⟨t,rfl⟩:=rx
  obtain⟨hy,e'⟩:y.length≤sizeLine∧n=y.length:=e
  subst e'
  exact len_str (by omega) ⟨.int _,H,I.tok _,⟨_,rfl⟩,q⟩
 | byt y=>
  obtain⟨t,rfl⟩:=rx
  obtain⟨hy,e'⟩:y.size≤sizeLine∧n=y.size:=e
  subst e'
  exact PySem.W.len_bytes (by omega) ⟨.int _,H,I.tok _,⟨_,rfl⟩,q⟩
 | ref p=>
  cases rx
  have e':(∃xs,SqL X.K H p xs∧n=xs.length)∨∃xs,SqT X.K H p xs∧n=xs.length:=e
  rcases e' with⟨xs,hx,e'⟩|⟨xs,hx,e'⟩
  ·subst e'
   obtain⟨its,r',pl,hz⟩:=I.list hx
   have hlen:=r'.length
   exact Calls.call_len_list pl.isList (by simp only[List.size_toArray];omega) ⟨.int xs.length,H,I.tok _,⟨_,by simp only[List.size_toArray];rw[hlen]⟩,q⟩
  ·subst e'
   obtain⟨its,r',pl,hz⟩:=I.tuple hx
   have hlen:=r'.length
   exact len_tuple pl (by simp only[List.size_toArray];omega) ⟨.int xs.length,H,I.tok _,⟨_,by simp only[List.size_toArray];rw[hlen]⟩,q⟩
 | _=>exact(show False from e).elim
end
structure ObjM (h:Heap)(x dx C:Addr)(mA:Str→Option Value):Prop where
 obj:h.get? x=some (PySem.W.instObj C dx)
 ns:h.Ns1 dx mA
 ne:dx≠x
theorem Zcz {h:Heap}{dx:Addr}{mA:Str→Option Value}(n:h.Ns1 dx mA):∃od,h.get? dx=some od∧∀name,PySem.W.lookIn name od=some (mA name):=by
 obtain⟨o,es,ep,ho,hd,hk,_,hm⟩:=n
 refine⟨o,ho,fun name=>?_⟩
 have e:=hm name
 unfold nsFind findBy at e
 rw[←Array.find?_toList]at e
 unfold PySem.W.lookIn
 rw[hd]
 dsimp only
 split
 ·rename_i y q
  rw[q]at e
  exact congrArg some e
 ·rename_i q
  rw[q]at e
  have a:es.toList.any (·.refKey)=false:=by
   rw[List.any_eq_false]
   intro y hy
   obtain⟨z,t,hkey⟩:=hk y (Array.mem_toList_iff.mp hy)
   simp[DictEntry.refKey,hkey]
  have a':¬es.toList.any (·.refKey)=true:=by rw[a];exact Bool.false_ne_true
  rw[if_neg a']
  exact congrArg some e
theorem ObjM.look {h:Heap}{x dx C:Addr}{mA:Str→Option Value}(I:ObjM h x dx C mA):∃od,PySem.W.InstAt h x (PySem.W.instObj C dx) C (some od)∧∀name,PySem.W.lookIn name od=some (mA name):=
 let ⟨od,ho,hl⟩:=Zcz I.ns
 ⟨od,⟨I.obj,rfl,rfl,ho⟩,hl⟩
section
variable {prog:Program}{w:World}{A:Around}{E:Value→Shared→Prop}{s:Shared}{K:PySem.W.Frag}{x dx C f:Addr}{mA:Str→Option Value}{name:Str}{v:Value}
theorem ZjV {expr:Bool}{Q:Value→Shared→Prop}(X:K.In s.heap)(I:ObjM s.heap x dx C mA)(hg:PySem.W.plainGet K C name=true)(hh:PySem.W.hasDictIn K C=true)
  (ha:PySem.W.findIn K (.ref C) name=some none) (hv:mA name=some v) (hv':PySem.W.handedIn v=true) (h:Q v { s with toks:=s.toks+1 }):
  wpAny (model prog w) A (getAttr (.ref x) name expr) Q E s:=by
 obtain⟨od,J,hl⟩:=I.look
 exact PySem.W.get_value X J (PySem.W.plainGet_of hg).1 (PySem.W.findObj_own hh ha rfl (by rw[hl,hv])) hv' h
theorem Zio {pl:Sem Bool}{Q:Value×List Value→Shared→Prop}(X:K.In s.heap)(I:ObjM s.heap x dx C mA)(hg:PySem.W.plainGet K C name=true)
  (hf:PySem.W.findIn K (.ref C) name=some (some (.ref f))) (ht:PySem.W.isFn K (.ref f)=true) (hv:mA name=none) (h:Q (.ref f,[.ref x]) s):
  wpAny (model prog w) A (getMethod (.ref x) name pl) Q E s:=by
 obtain⟨od,J,hl⟩:=I.look
 exact PySem.W.method_fn X J (PySem.W.plainGet_of hg).1 (PySem.W.plainGet_of hg).2 hf (beq_iff_eq.mp ht) (by show (PySem.W.lookIn name od).map (·.isSome)=some false;rw[hl,hv];rfl) h
theorem Zjp {ns:List Str}{Q:Unit→Shared→Prop}(X:K.In s.heap)(I:ObjM s.heap x dx C mA)
  (hs:PySem.W.findIn K (.ref C) "__setattr__"=some (some (.builtin "object.__setattr__"))) (hp:PySem.W.plainOver K C=true) (ht:PySem.W.takerIn K C name=some none) (hh:PySem.W.hasDictIn K C=true)
  (hw:PySem.Within mA ns) (hsz:ns.length≤sizeLine)
  (h:∀h',ObjM h' x dx C (fun y=>if y=name then some v else mA y)→Heap.SameBut dx s.heap h'→Q () { s with heap:=h',toks:=s.toks+2 }):
  wpAny (model prog w) A (setAttr (.ref x) name v) Q E s:=by
 obtain⟨od,J,hl⟩:=I.look
 refine PySem.W.set_plain X J hs (PySem.W.osa_open (s:={ s with toks:=s.toks+1 }) (r:=none) X J hp ht fun b=>?_)
 obtain⟨cd,hc,hd'⟩:=PySem.W.any_some hh
 have hx:s.heap.get? x=some ⟨.ref C,some dx,.plain,#[]⟩:=I.obj
 refine wpAny_bind (wpAny_pure (wpAny_bind (wpAny_bind (wpAny_loadPart hx (wpAny_bind (PySem.W.Looks.here (s:={ s with toks:=s.toks+1 }) (PySem.W.looks_clsIn X hc) ?_))))))
 rw[hd']
 refine wpAny_pure (a:=some dx) (wpAny_bind (wpAny_pure (wpAny_bind ?_)))
 refine wpAny_nsSet1 (s:={ s with toks:=s.toks+1 }) I.ns fun h' hn2 hs2=>?_
 obtain⟨oD,esD,epD,hoD,hdD,hcD⟩:=hn2.count (PySem.Within.cons name v hw)
 refine wpAny_bind (wpAny_lookBehind hoD (by rw[hdD];exact pastItsLine_dict (Nat.le_trans hcD (by rw[List.length_cons];omega))) ?_)
 exact wpAny_pure (h _ ⟨(hs2.2 _ (Ne.symm I.ne)).trans I.obj,hn2,I.ne⟩ hs2)
theorem Zib {R:Result→Shared→Prop}{vs:List Value}{kw:List (Str×Value)}(X:K.In s.heap)(hm:PySem.W.makesIn K C=true)
  (hi:PySem.W.findIn K (.ref C) "__init__"=some (some (.ref f))) (hf:PySem.W.typeIn K (.ref f)=some (.type "function"))
  (h:codeAny (model prog w) (A.under (.builtin "type.__call__" ⟨.ref C::vs,kw⟩)) (.call (.ref f) ⟨.ref (s.heap.objs.size+1)::vs,kw⟩) (PySem.W.InitBack (s.heap.objs.size+1) R)
   { s with heap:=(s.heap.push PySem.W.emptyDict).push (PySem.W.instObj C s.heap.objs.size) }):
  codeAny (model prog w) A (.call (.ref C) ⟨vs,kw⟩) R s:=by
 obtain⟨hh,g,d,t,os⟩:=s
 exact PySem.W.make_core (PySem.W.makes_of X hm) (PySem.W.looks_findIn X hi) (fun self=>PySem.W.bind_fn X self hf) (.inl rfl) h
end
def putF (f:Str)(v:V):List (Str×V)→List (Str×V)
 | []=>[(f,v)]
 | (g,x)::r=>if g=f then (g,v)::r else (g,x)::putF f v r
theorem ZaR (f g:Str)(v:V):∀fs:List (Str×V),(putF f v fs).lookup g=if g=f then some v else fs.lookup g
 | []=>by
  show List.lookup g [(f,v)]=_
  by_cases h:g=f
  ·have hb:(g == f)=true:=beq_iff_eq.mpr h
   simp only[List.lookup,hb,if_pos h]
  ·have hb:(g == f)=false:=beq_eq_false_iff_ne.mpr h
   simp only[List.lookup,hb,if_neg h]
 | (k,x)::r=>by
  have ih:=ZaR f g v r
  rw[show putF f v ((k,x)::r)=(if k=f then (k,v)::r else (k,x)::putF f v r) from rfl]
  by_cases hk:k=f
  ·rw[if_pos hk]
   by_cases h:g=k
   ·have hb:(g == k)=true:=beq_iff_eq.mpr h
    simp only[List.lookup,hb,if_pos (h.trans hk)]
   ·have hb:(g == k)=false:=beq_eq_false_iff_ne.mpr h
    simp only[List.lookup,hb,if_neg (fun e:g=f=>h (e.trans hk.symm))]
  ·rw[if_neg hk]
   by_cases h:g=k
   ·have hb:(g == k)=true:=beq_iff_eq.mpr h
    simp only[List.lookup,hb,if_neg (fun e:g=f=>hk (h.symm.trans e))]
   ·have hb:(g == k)=false:=beq_eq_false_iff_ne.mpr h
    simp only[List.lookup,hb]
    exact ih
theorem ZcD (f:Str)(v:V):∀fs:List (Str×V),f∈(putF f v fs).map (·.1)∧∀g,g∈fs.map (·.1)→g∈(putF f v fs).map (·.1)
 | []=>⟨by simp[putF],fun g h=>by simp at h⟩
 | (k,x)::r=>by
  obtain⟨i1,i2⟩:=ZcD f v r
  rw[show putF f v ((k,x)::r)=(if k=f then (k,v)::r else (k,x)::putF f v r) from rfl]
  by_cases hk:k=f
  ·rw[if_pos hk]
   subst hk
   exact⟨by simp,fun g h=>by simpa using h⟩
  ·rw[if_neg hk]
   refine⟨?_,fun g h=>?_⟩
   ·rw[List.map_cons]
    exact List.mem_cons_of_mem _ i1
   ·rw[List.map_cons]at h ⊢
    rcases List.mem_cons.mp h with e | e
    ·exact List.mem_cons.mpr (.inl e)
    ·exact List.mem_cons_of_mem _ (i2 g e)
theorem ZcA (f:Str)(v:V):∀fs:List (Str×V),(putF f v fs).length≤fs.length+1
 | []=>by simp[putF]
 | (k,x)::r=>by
  have ih:=ZcA f v r
  rw[show putF f v ((k,x)::r)=(if k=f then (k,v)::r else (k,x)::putF f v r) from rfl]
  by_cases hk:k=f
  ·rw[if_pos hk,List.length_cons,List.length_cons];omega
  ·rw[if_neg hk,List.length_cons,List.length_cons];omega
theorem RelO.some_of {v:V}{o:Option Value}(r:RelO (some v) o):∃u,o=some u∧RelV v u:=by
 cases o with
 | none=>exact(show False from r).elim
 | some u=>exact⟨u,rfl,r⟩
theorem RelO.none_of {o:Option Value}(r:RelO none o):o=none:=by
 cases o with
 | none=>rfl
 | some u=>exact(show False from r).elim
theorem Zht {v:V}{u:Value}(r:RelV v u):PySem.W.handedIn u=true:=by
 cases v with
 | non=>cases (show u=Value.none from r);rfl
 | bl b=>cases (show u=Value.bool b from r);rfl
 | int i=>obtain⟨t,e⟩:=(show ∃t,u=Value.int i t from r);cases e;rfl
 | str x=>obtain⟨t,e⟩:=(show ∃t,u=Value.str x t from r);cases e;rfl
 | byt b=>obtain⟨t,e⟩:=(show ∃t,u=Value.bytes b t from r);cases e;rfl
 | flt b=>obtain⟨t,e⟩:=(show ∃t,u=Value.float b t from r);cases e;rfl
 | ref a=>cases (show u=Value.ref a from r);rfl
 | ty n=>cases (show u=Value.type n from r);rfl
section
variable {P:Program}{w:World}{H H':Hp}{h h':Heap}{a C dx:Addr}{fs fs':List (Str×V)}
theorem ZdD (hok:HOk P w H h)(e:H a=some (.ins C dx fs)):∃mA,ObjM h a dx C mA∧(∀f,RelO (fs.lookup f) (mA f))∧PySem.Within mA (fs.map (·.1))∧fs.length≤1000∧H dx=some (.own a):=by
 obtain⟨d,z,ne,ob,mA,n,r,q⟩:=(show ObjOk P w H h a (.ins C dx fs) from hok a _ e)
 exact⟨mA,⟨ob,n,ne⟩,r,q,z,d⟩
end
structure Cls (K:PySem.W.Frag)(C:Addr):Prop where
 pg:PySem.W.plainGet K C Str.empty=true
 hd:PySem.W.hasDictIn K C=true
 po:PySem.W.plainOver K C=true
 sa:PySem.W.findIn K (.ref C) "__setattr__"=some (some (.builtin "object.__setattr__"))
theorem Cls.get {K:PySem.W.Frag}{C:Addr}(c:Cls K C)(f:Str):PySem.W.plainGet K C f=true:=c.pg
def NoAttr (K:PySem.W.Frag)(C:Addr)(f:Str):Prop:=PySem.W.findIn K (.ref C) f=some none
theorem NoAttr.taker {K:PySem.W.Frag}{C:Addr}{f:Str}(n:NoAttr K C f):PySem.W.takerIn K C f=some none:=by
 unfold PySem.W.takerIn
 rw[show PySem.W.findIn K (.ref C) f=some none from n]
 rfl
structure Meth (K:PySem.W.Frag)(C:Addr)(m:Str)(f:Addr):Prop where
 at_:PySem.W.findIn K (.ref C) m=some (some (.ref f))
 fn:PySem.W.isFn K (.ref f)=true
 kp:PySem.W.keepIn K (.ref f)=true
section
variable {X:Cx}{pins:List (Addr×Obj)}{σ:St}{H:Hp}{s:Shared}{a C dx:Addr}{fs:List (Str×V)}{f:Str}{v:V}{A:Around}{E:Value→Shared→Prop}
theorem Zgo {b:Bool}{Q:Value→Shared→Prop}(I:Inv X pins σ H s)(e:H a=some (.ins C dx fs))(c:Cls X.K C)(n:NoAttr X.K C f)(l:fs.lookup f=some v)
  (h:∀u s',Inv X pins σ H s'→RelV v u→Q u s'):wpAny (model X.prog X.w) A (getAttr (.ref a) f b) Q E s:=by
 obtain⟨mA,O,r,_,_,_⟩:=ZdD I.hok e
 obtain⟨u,hu,ru⟩:=RelO.some_of (v:=v) (o:=mA f) (by rw[←l];exact r f)
 exact ZjV I.kIn O (c.get f) c.hd n hu (Zht ru) (h u _ (I.tok _) ru)
theorem Zb6 {m:Str}{g:Addr}{pl:Sem Bool}{Q:Value×List Value→Shared→Prop}(I:Inv X pins σ H s)(e:H a=some (.ins C dx fs))(c:Cls X.K C)(k:Meth X.K C m g)(l:fs.lookup m=none)
  (h:Q (.ref g,[.ref a]) s):wpAny (model X.prog X.w) A (getMethod (.ref a) m pl) Q E s:=by
 obtain⟨mA,O,r,_,_,_⟩:=ZdD I.hok e
 have hn:mA m=none:=RelO.none_of (by rw[←l];exact r m)
 exact Zio I.kIn O (c.get m) k.at_ k.fn hn h
theorem Zf5 {y:V}{u:Value}{Q:Unit→Shared→Prop}(I:Inv X pins σ H s)(e:H a=some (.ins C dx fs))(c:Cls X.K C)(n:NoAttr X.K C f)(hl:fs.length<1000)(ry:RelV y u)
  (h:∀s',Inv X pins σ (upd H a (.ins C dx (putF f y fs))) s'→Q () s'):wpAny (model X.prog X.w) A (setAttr (.ref a) f u) Q E s:=by
 obtain⟨mA,O,r,wi,_,ho⟩:=ZdD I.hok e
 have hz:(fs.map (·.1)).length≤sizeLine:=by rw[List.length_map,sizeLine_eq];omega
 refine Zjp I.kIn O c.sa c.po n.taker c.hd wi hz fun h' O' sb=>h _ ?_
 have hd:∃o,h'.get? dx=some o:=let ⟨o,_,_,e',_⟩:=O'.ns;⟨o,e'⟩
 refine I.write (x:=a) (e:=dx) (by rw[e];exact True.intro) (.inr ho) (fun b q hb z=>(sb.2 b hb).trans z) hd ?_
 refine⟨by rw[Zab O.ne];exact ho,?_,O.ne,O'.obj,_,O'.ns,fun g=>?_,fun g hg=>?_⟩
 ·have:=ZcA f y fs;omega
 ·show RelO ((putF f y fs).lookup g) (if g=f then some u else mA g)
  rw[ZaR]
  by_cases q:g=f
  ·rw[if_pos q,if_pos q];exact ry
  ·rw[if_neg q,if_neg q];exact r g
 ·by_cases q:g=f
  ·rw[q];exact(ZcD f y fs).1
  ·refine(ZcD f y fs).2 g (wi g fun z=>hg ?_)
   show (if g=f then some u else mA g)=none
   rw[if_neg q];exact z
theorem Inv.made (I:Inv X pins σ H s):Inv X pins σ (upd (upd H s.heap.objs.size (.own (s.heap.objs.size+1))) (s.heap.objs.size+1) (.ins C s.heap.objs.size []))
  { s with heap:=(s.heap.push PySem.W.emptyDict).push (PySem.W.instObj C s.heap.objs.size) }:=by
 have e1:(s.heap.push PySem.W.emptyDict).get? s.heap.objs.size=some PySem.W.emptyDict:=Heap.get?_push_size s.heap rfl
 have e2:((s.heap.push PySem.W.emptyDict).push (PySem.W.instObj C s.heap.objs.size)).get? (s.heap.objs.size+1)=some (PySem.W.instObj C s.heap.objs.size):=by
  have:=Heap.get?_push_size (s.heap.push PySem.W.emptyDict) (o:=PySem.W.instObj C s.heap.objs.size) rfl
  rwa [Heap.size_push]at this
 have e3:(s.heap.push PySem.W.emptyDict).Ns s.heap.objs.size (fun _=>none):=⟨PySem.W.emptyDict,#[],_,e1,rfl,(fun e he=>absurd he (by simp)),fun _=>rfl⟩
 have I1:=I.laid (a:=s.heap.objs.size) (o:=.own (s.heap.objs.size+1)) (h':=s.heap.push PySem.W.emptyDict) (t':=s.toks) (fun b u q=>Heap.get?_push_of_some _ q) (Nat.le_refl _) ⟨_,e1⟩
 refine I1.laid (a:=s.heap.objs.size+1) (o:=.ins C s.heap.objs.size []) (t':=s.toks) (fun b u q=>Heap.get?_push_of_some _ q) (Nat.le_of_eq (Heap.size_push _ _)) ?_
 have ne:s.heap.objs.size≠s.heap.objs.size+1:=Nat.ne_of_lt (Nat.lt_succ_self _)
 refine⟨by rw[Zab ne,Zad],Nat.zero_le _,ne,e2,fun _=>none,(Heap.Ns1.of_empty e3).at fun o q=>Heap.get?_push_of_some _ q,fun _=>True.intro,fun y hy=>absurd rfl hy⟩
theorem Zkb {prog:Program}{w:World}{env:Env}{e:Expr}{f:Str}{pos:Pos}{s:Shared}{Q:Value→Shared→Prop}(hb:attributeBase e f env (eval e env)=eval e env)
  (h:wpAny (model prog w) A (eval e env) (fun o s₁=>wpAny (model prog w) A (getAttr o f true) Q E s₁) E s):wpAny (model prog w) A (eval (.Attribute e f pos) env) Q E s:=
 Attribute_any_ h (by rw[arm_eval_Attribute,hb])
end
def tFld (K:PySem.W.Frag)(ta:TE)(f:Str):TE:=fun σ H Q=>ta σ H fun x H1=>∃a C dx fs v,x=.ref a∧H1 a=some (.ins C dx fs)∧Cls K C∧NoAttr K C f∧fs.lookup f=some v∧Q v H1
def sFld (K:PySem.W.Frag)(ta tv:TE)(f:Str):TS:=fun D σ H=>tv σ H fun y H1=>ta σ H1 fun x H2=>∃a C dx fs,x=.ref a∧H2 a=some (.ins C dx fs)∧Cls K C∧NoAttr K C f∧fs.length<1000 ∧
 D.nx σ (upd H2 a (.ins C dx (putF f y fs)))
def InOp (X:Cx)(op:Operator)(rd:V→V→Hp→VK→Prop):Prop:=
 ∀(pins:List (Addr×Obj)) (s:Shared) (σ:St) (H:Hp) (x y:V) (u v:Value) (Q:VK),Inv X pins σ H s→RelV x u→RelV y v→rd x y H Q→wpAny (model X.prog X.w) X.A (inplaceOp op u v) (EP X pins σ Q) X.xe s
section
variable {X:Cx}{o e value:Expr}{f:Str}{pos pos' tpos:Pos}{ta tv:TE}
theorem ZkW (he:PE X e ta)(hb:attributeBase e f X.env (eval e X.env)=eval e X.env):PE X (.Attribute e f pos) (tFld X.K ta f):=by
 intro pins s σ H Q I h
 refine Zkb hb (thn (he pins s σ H _ I h) fun u s1 ⟨x,H1,I1,rx,a,C,dx,fs,v,ex,ea,c,n,l,q⟩=>?_)
 subst ex
 obtain rfl:u=Value.ref a:=rx
 exact Zgo I1 ea c n l fun u' s2 I2 ru=>⟨v,H1,I2,ru,q⟩
theorem ZiJ (ha:PE X o ta)(hv:PE X value tv)(hs:swapsWith value (some (.Attribute o f pos')) pos.line X.env=pure false):PS X (.Assign [.Attribute o f pos'] value pos) (sFld X.K ta tv f):=by
 intro pins s σ H D I h
 refine plainObj_wpAny_Assign_Attribute (thn (hv pins s σ H _ I h) fun u s1 ⟨y,H1,I1,ry,q⟩=>thn (ha pins s1 σ H1 _ I1 q) fun ov s2 ⟨x,H2,I2,rx,a,C,dx,fs,ex,ea,c,n,l,q2⟩=>?_) hs
 subst ex
 obtain rfl:ov=Value.ref a:=rx
 exact Zf5 I2 ea c n l ry fun s3 I3=>⟨σ,_,I3,q2⟩
def rSub:V→V→Hp→VK→Prop:=fun x y H Q=>∃i j,x=.int i∧y=.int j∧Q (.int (i-j)) H
theorem Zlt:InOp X .Sub rSub:=by
 rintro pins s σ H x y u v Q I rx ry ⟨i,j,rfl,rfl,q⟩
 obtain⟨t,rfl⟩:=(show ∃t,u=Value.int i t from rx)
 obtain⟨t',rfl⟩:=(show ∃t',v=Value.int j t' from ry)
 exact PyProof.Rows.isub_int ⟨.int (i-j),H,I.tok _,⟨_,rfl⟩,q⟩
theorem ZjH {pl:Sem Bool}{m:Str}{apos:Pos}{args:List Expr}{pins:List (Addr×Obj)}{s:Shared}{σ:St}{H:Hp}{Q:Value→Shared→Prop}{te:TE}(he:PE X e te)(I:Inv X pins σ H s)
  (h:te σ H fun x H1=>∃a C dx fs g,x=.ref a∧H1 a=some (.ins C dx fs)∧Cls X.K C∧Meth X.K C m g∧fs.lookup m=none ∧
   ∀s1,Inv X pins σ H1 s1→wpAny (model X.prog X.w) X.A (callWith pos (.ref g) [.ref a] (backTo pos (starEach args X.env)) (backToKw pos (keywordEach [] X.env))) Q X.xe s1)
  (ht:eval (.Call (.Attribute e m apos) args [] pos) X.env=(do
   let ov ←eval e X.env
   standAt apos.atName
   let (f,first) ←holding [ov] (getMethod ov m pl)
   callWith pos f first (backTo pos (starEach args X.env)) (backToKw pos (keywordEach [] X.env)))):
  wpAny (model X.prog X.w) X.A (eval (.Call (.Attribute e m apos) args [] pos) X.env) Q X.xe s:=by
 refine PySem.W.methodCall_KW (pl:=pl) (thn (he pins s σ H _ I h) fun u s1 ⟨x,H1,I1,rx,a,C,dx,fs,g,ex,ea,c,k,l,q⟩=>?_) ht
 subst ex
 obtain rfl:u=Value.ref a:=rx
 exact Zb6 I1 ea c k l (q s1 I1)
end
section
variable {X:Cx}{pins:List (Addr×Obj)}{σ:St}{H:Hp}{s:Shared}{A:Around}{E:Value→Shared→Prop}{Q:Value→Shared→Prop}{c:Value}{b:Bool}
inductive TyOf (K:PySem.W.Frag) (H:Hp):V→Value→Prop where
 | non:TyOf K H .non (.type "NoneType")
 | bl (x:Bool):TyOf K H (.bl x) (.type "bool")
 | int (i:Int):TyOf K H (.int i) (.type "int")
 | str (x:Str):TyOf K H (.str x) (.type "str")
 | flt (x:UInt64):TyOf K H (.flt x) (.type "float")
 | lst {a:Addr} {xs:List V} (e:H a=some (.lst xs)):TyOf K H (.ref a) (.type "list")
 | frz {a:Addr} {o:Obj} {xs:List V} (e:H a=some (.frz o (.lst xs))):TyOf K H (.ref a) (.type "list")
 | tup {a:Addr} {xs:List V} (e:H a=some (.tup xs)):TyOf K H (.ref a) (.type "tuple")
 | dK {a:Addr} {kvs:List (Key×V)} (e:H a=some (.dK kvs)):TyOf K H (.ref a) (.type "dict")
 | dT {a:Addr} {kvs:List (List Key×V)} (e:H a=some (.dT kvs)):TyOf K H (.ref a) (.type "dict")
 | ins {a C dx:Addr} {fs:List (Str×V)} (e:H a=some (.ins C dx fs)) (cl:Cls K C) (ha:PySem.W.findIn K (.ref C) "__class__"=some (some (.builtin "object.__class__")))
   (hn:PySem.W.specialIn K (.builtin "object.__class__") "__get__"=some (some (.builtin "getset_descriptor.__get__"))) (htk:PySem.W.takesIn K (.builtin "object.__class__")=some true)
   (hm:PySem.W.mroIn K C (.type "object")=some true):TyOf K H (.ref a) (.ref C)
theorem Zhn {x:V}{u t:Value}(I:Inv X pins σ H s)(rx:RelV x u)(ty:TyOf X.K H x t)(e:PySem.W.kitOne X.K t c=some b)(h:∀tk,Q (.bool b) { s with toks:=tk }):
  wpAny (model X.prog X.w) A (call (.builtin "isinstance") [u,c]) Q E s:=by
 cases ty with
 | non=>cases (show u=Value.none from rx);exact PySem.W.kia_one PySem.W.kitx_none I.kIn True.intro e (fun z=>nomatch z) h
 | bl y=>cases (show u=Value.bool y from rx);exact PySem.W.kia_one PySem.W.kitx_bool I.kIn True.intro e (fun z=>nomatch z) h
 | int i=>obtain⟨t,q⟩:=(show ∃t,u=Value.int i t from rx);cases q;exact PySem.W.kia_one PySem.W.kitx_int I.kIn True.intro e (fun z=>nomatch z) h
 | str y=>obtain⟨t,q⟩:=(show ∃t,u=Value.str y t from rx);cases q;exact PySem.W.kia_one PySem.W.kitx_str I.kIn True.intro e (fun z=>nomatch z) h
 | flt y=>obtain⟨t,q⟩:=(show ∃t,u=Value.float y t from rx);cases q;exact PySem.W.kia_one PySem.W.kitx_float I.kIn True.intro e (fun z=>nomatch z) h
 | @lst a xs ea=>
  cases (show u=Value.ref a from rx)
  obtain⟨_,_,n,_,h1⟩:=(show ObjOk X.prog X.w H s.heap a (.lst xs) from I.hok a _ ea)
  exact PySem.W.kia_one PySem.W.kitx_list I.kIn ⟨_,h1,rfl⟩ e (fun z=>nomatch z) h
 | @frz a ob xs ea=>
  cases (show u=Value.ref a from rx)
  obtain⟨_,_,_,n,_,h1⟩:=(show ObjOk X.prog X.w H s.heap a (.frz ob (.lst xs)) from I.hok a _ ea)
  exact PySem.W.kia_one PySem.W.kitx_list I.kIn ⟨_,h1,rfl⟩ e (fun z=>nomatch z) h
 | @tup a xs ea=>
  cases (show u=Value.ref a from rx)
  obtain⟨_,_,_,p⟩:=(show ObjOk X.prog X.w H s.heap a (.tup xs) from I.hok a _ ea)
  obtain⟨o,h1,h2,_⟩:=p
  exact PySem.W.kia_one PySem.W.kitx_tuple I.kIn ⟨o,h1,h2⟩ e (fun z=>nomatch z) h
 | @dK a kvs ea=>
  cases (show u=Value.ref a from rx)
  obtain⟨_,_,vs,_,p⟩:=(show ObjOk X.prog X.w H s.heap a (.dK kvs) from I.hok a _ ea)
  obtain⟨o,es,ep,h1,h2,_⟩:=p
  exact PySem.W.kia_one PySem.W.kitx_dict I.kIn ⟨o,h1,h2.1⟩ e (fun z=>nomatch z) h
 | @dT a kvs ea=>
  cases (show u=Value.ref a from rx)
  obtain⟨_,_,xs,_,o,es,ep,h1,h2,_⟩:=(show ObjOk X.prog X.w H s.heap a (.dT kvs) from I.hok a _ ea)
  exact PySem.W.kia_one PySem.W.kitx_dict I.kIn ⟨o,h1,h2.1⟩ e (fun z=>nomatch z) h
 | @ins a C dx fs ea cl ha hn htk hm=>
  cases (show u=Value.ref a from rx)
  obtain⟨mA,O,_⟩:=ZdD I.hok ea
  obtain⟨od,J,_⟩:=O.look
  exact PySem.W.kia_one (PySem.W.kitx_own (cl.get _) cl.hd ha hn htk hm) I.kIn J e (fun z=>nomatch z) h
end
structure Room (k:Nat)(A:Around):Prop where
 hd:A.handled=none
 dp:A.depth+3*k+5<recursionLimit
 un:A.units+16*k+200<cLine
theorem Room.mono {j k:Nat}{A:Around}(r:Room k A)(h:j≤k):Room j A:=⟨r.hd,by have:=r.dp;omega,by have:=r.un;omega⟩
theorem Room.deeper {k:Nat}{A:Around}(r:Room (k+1) A)(env:Env):Room k (A.deeper env):=
 ⟨r.hd,by have:=r.dp;show A.depth+1+3*k+5<_;omega,by have:=r.un;show A.units+3+16*k+200<_;omega⟩
theorem Zgi {A:Around}{C:Addr}{us:List Value}{kw:List (Str×Value)}:(A.under (.builtin "type.__call__" ⟨.ref C::us,kw⟩)).depth=A.depth+1:=by
 first | rfl | simp[Around.under,Code.weight,Code.isCreation,Code.isGuard,Code.isCaller,Code.frames,Code.isFrame,guardIds]
theorem Zgh {A:Around}{C:Addr}{us:List Value}{kw:List (Str×Value)}:(A.under (.builtin "type.__call__" ⟨.ref C::us,kw⟩)).units=A.units+1:=by
 first | rfl | simp[Around.under,Code.cUnits,Code.frames,Code.isFrame]
theorem Room.make {k:Nat}{A:Around}(r:Room (k+1) A)(C:Addr)(us:List Value)(kw:List (Str×Value)):Room k (A.under (.builtin "type.__call__" ⟨.ref C::us,kw⟩)):=
 ⟨r.hd,by have:=r.dp;rw[Zgi];omega,by have:=r.un;rw[Zgh];omega⟩
theorem Room.depth {k:Nat}{A:Around}(r:Room k A):A.depth<recursionLimit:=by have:=r.dp;omega
theorem Room.units {k:Nat}{A:Around}(r:Room k A):A.units+64<cLine:=by have:=r.un;omega
def tNil:TA:=fun _ H Q=>Q [] H
def ZkD (ta:TE)(tr:TA):TA:=fun σ H Q=>ta σ H fun x H1=>tr σ H1 fun xs H2=>Q (x::xs) H2
section
variable {X:Cx}{e:Expr}{es:List Expr}{te:TE}{t:TA}{pos:Pos}
theorem Zae:PA X [] tNil:=fun _ _ _ _ H Q I h=>Calls.spliced_nil ⟨[],H,I,.nil,h⟩
theorem Zaa (ha:PE X e te)(hr:PA X es t)(hs:starEach (e::es) X.env=(false,eval e X.env)::starEach es X.env:=by rfl):PA X (e::es) (ZkD te t):=by
 intro pos pins s σ H Q I h
 rw[hs]
 show wpAny _ _ (spliced ((false,eval e X.env)::backTo pos (starEach es X.env))) _ _ s
 refine Calls.spliced_cons (thn (ha pins s σ H _ I h) fun u s1 ⟨x,H1,I1,r1,q1⟩=>?_)
 exact thn (hr pos pins s1 σ H1 _ I1 q1) fun us s2 ⟨xs,H2,I2,r2,q2⟩=>⟨x::xs,H2,I2,.cons r1 r2,q2⟩
def tTup (t:TA):TE:=fun σ H Q=>t σ H fun xs H1=>xs.length≤sizeLine∧∀p,H1 p=none→Q (.ref p) (upd H1 p (.tup xs))
def tLst (t:TA):TE:=fun σ H Q=>t σ H fun xs H1=>xs.length≤sizeLine∧∀p,H1 p=none→Q (.ref p) (upd H1 p (.lst xs))
theorem ZkT {x1}(h:PA X es t):PE X (.Tuple es x1 pos) (tTup t):=by
 intro pins s σ H Q I hq
 refine wpAny_Tuple_spliced (thn (h pos pins s σ H _ I hq) fun us s1 ⟨xs,H1,I1,r,z,q⟩=>⟨by rw[←r.length];exact z,?_⟩)
 have hf:H1 s1.heap.objs.size=none:=I1.hok.fresh (Nat.le_refl _)
 refine⟨.ref s1.heap.objs.size,upd H1 s1.heap.objs.size (.tup xs),I1.laid (t':=s1.toks) (fun b u e=>Heap.get?_push_of_some _ e) (Nat.le_refl _) ?_,rfl,q _ hf⟩
 exact⟨z,us,r,⟨_,Heap.get?_push_size _ rfl,rfl,_,rfl⟩⟩
theorem Zcb (h:PA X es t):PE X (.List es pos) (tLst t):=by
 intro pins s σ H Q I hq
 refine wpAny_List_spliced (thn (h pos pins s σ H _ I hq) fun us s1 ⟨xs,H1,I1,r,z,q⟩=>⟨by rw[←r.length];exact z,?_⟩)
 have hf:H1 s1.heap.objs.size=none:=I1.hok.fresh (Nat.le_refl _)
 refine⟨.ref s1.heap.objs.size,upd H1 s1.heap.objs.size (.lst xs),I1.laid (t':=s1.toks) (fun b u e=>Heap.get?_push_of_some _ e) (Nat.le_refl _) ?_,rfl,q _ hf⟩
 exact⟨z,us,0,r,Heap.get?_push_size _ rfl⟩
end
abbrev Sp:=List V→Hp→VK→XK→Prop
abbrev CXT:=List Env→Hp→Shared→XK→Value→Shared→Prop
structure Env0 (P:Program)(w:World)(K:PySem.W.Frag)(mg:Str→Option Value)(base:Heap)(A:Around)(outer:List Env)(s:Shared)(H:Hp):Prop where
 frames:A.frames=some outer
 mod:Mod K mg base
 bs:∀b o,base.get? b=some o→s.heap.get? b=some o∧H b=none
 bsz:base.objs.size≤s.heap.objs.size
 funs:s.heap.FunFrames base outer
 frf:∀b∈frs outer,H b=none
 hok:HOk P w H s.heap
 bare:AllBare s.gens
def CE (outer:List Env)(P:Program)(w:World)(H:Hp)(s:Shared)(Q:VK)(u:Value)(s':Shared):Prop:=
 ∃v H',s'.os=s.os∧AllBare s'.gens∧Un (frs outer) [] H H' s.heap s'.heap∧HOk P w H' s'.heap∧RelV v u∧Q v H'
def CR (CX:CXT)(outer:List Env)(P:Program)(w:World)(H:Hp)(s:Shared)(Q:VK)(E:XK)(r:Result)(s':Shared):Prop:=
 match r with
 | .ok (.ret u)=>CE outer P w H s Q u s'
 | .ok _=>False
 | .error e=>CX outer H s E e s'
structure FnOk (P:Program)(w:World)(K:PySem.W.Frag)(mg:Str→Option Value)(base:Heap)(CX:CXT)(k:Nat)(f:Addr)(fd:FuncData)(ps:List Str)(sp:Sp):Prop where
 len:∀vs H Q E,sp vs H Q E→vs.length=ps.length
 run:∀(A:Around) (outer:List Env) (s:Shared) (H:Hp) (args:Args) (us:List Value) (vs:List V) (Q:VK) (E:XK),Room k A→Env0 P w K mg base A outer s H→BindsTo s fd args (ps.zip us)→Vals vs us→sp vs H Q E →
  codeAny (model P w) A (.call (.ref f) args) (CR CX outer P w H s Q E) s
theorem Env0.make {P:Program}{w:World}{K:PySem.W.Frag}{mg:Str→Option Value}{base:Heap}{A:Around}{outer:List Env}{s:Shared}{H:Hp}(e:Env0 P w K mg base A outer s H)(C:Addr)(us:List Value)(kw:List (Str×Value)):
  Env0 P w K mg base (A.under (.builtin "type.__call__" ⟨.ref C::us,kw⟩)) outer s H:=⟨by first | exact e.frames | (simpa [Around.under,Code.envs,Code.isFrame,pushEnvs] using e.frames),e.mod,e.bs,e.bsz,e.funs,e.frf,e.hok,e.bare⟩
section
variable {X:Cx}{pins:List (Addr×Obj)}{σ:St}{H:Hp}{s s':Shared}
theorem Inv.env0 (I:Inv X pins σ H s):Env0 X.prog X.w X.K X.mg X.base X.A X.stack s H:=
 ⟨I.ok.frames,I.ok.mod,I.bs,Nat.le_trans I.ok.bsz I.sz,I.stack,I.stkFree,I.hok,I.bare⟩
theorem Inv.after {Q:VK}{u:Value}(I:Inv X pins σ H s)(h:CE X.stack X.prog X.w H s Q u s'):EP X pins σ Q u s':=by
 obtain⟨v,H',os,bare,un,hok,r,q⟩:=h
 obtain⟨hh,g,d,t,os'⟩:=s'
 obtain rfl:os'=s.os:=os
 exact⟨v,H',I.call (h':=hh) (g':=g) (d':=d) (t':=t) (ch:=[]) un hok bare (fun b z=>absurd z (by simp)),r,q⟩
end
def Zji (sp:Sp)(dvs:List V)(E:XK)(t:TA):TE:=fun σ H Q=>t σ H fun vs H1=>sp (vs++dvs) H1 Q E
def Zjf (C:Addr)(m:Str)(sp:Sp)(dvs:List V)(E:XK)(ta:TE)(t:TA):TE:=fun σ H Q=>ta σ H fun x H1=>∃a dx fs,x=.ref a∧H1 a=some (.ins C dx fs)∧fs.lookup m=none ∧
 t σ H1 fun vs H2=>sp (x::(vs++dvs)) H2 Q E
def Zku (C:Addr)(sp:Sp)(dvs:List V)(E:XK)(t:TA):TE:=fun σ H Q=>t σ H fun vs H1=>∀x dx,H1 x=none→H1 dx=none→dx≠x →
 sp (.ref x::(vs++dvs)) (upd (upd H1 dx (.own x)) x (.ins C dx [])) (fun v H2=>v=.non∧Q (.ref x) H2) E
def Binds (K:PySem.W.Frag)(fd:FuncData)(ps:List Str)(ds:List Value):Prop:=
 ∀(s:Shared) (us:List Value),K.In s.heap→(us++ds).length=ps.length→BindsTo s fd ⟨us,[]⟩ (ps.zip (us++ds))
theorem Binds.all {K:PySem.W.Frag}{fd:FuncData}{ps:List Str}(h:∀us:List Value,us.length=ps.length→bindArgs fd ⟨us,[]⟩=pure (ps.zip us)):Binds K fd ps []:=fun s us _ hl=>by
 rw[List.append_nil]at hl ⊢
 exact .of_eq (h us hl)
def Zcc (CX:CXT)(X:Cx)(E:XK):Prop:=∀(pins:List (Addr×Obj)) (σ:St) (H:Hp) (s:Shared) (e:Value) (s':Shared),Inv X pins σ H s→CX X.stack H s E e s'→X.xe e s'
section
variable {X:Cx}{CX:CXT}{k:Nat}{f C:Addr}{fd:FuncData}{ps:List Str}{sp:Sp}{dvs:List V}{ds:List Value}{E:XK}{x m:Str}{p pos apos:Pos}{e o:Expr}{es:List Expr}{ta:TE}{t:TA}
theorem Zfr {pins:List (Addr×Obj)}{σ:St}{H:Hp}{s:Shared}{Q:VK}{us:List Value}{vs:List V}(F:FnOk X.prog X.w X.K X.mg X.base CX k f fd ps sp)(hr:Room k X.A)(hb:Binds X.K fd ps ds)(hd:Vals dvs ds)(hx:Zcc CX X E)
  (I:Inv X pins σ H s) (r:Vals vs us) (h:sp (vs++dvs) H Q E):wpAny (model X.prog X.w) X.A (call (.ref f) us) (EP X pins σ Q) X.xe s:=by
 have r2:Vals (vs++dvs) (us++ds):=r.append hd
 have hl:(us++ds).length=ps.length:=by rw[←r2.length];exact F.len _ _ _ _ h
 refine wpAny_call (codeAny_mono (F.run X.A X.stack s H ⟨us,[]⟩ (us++ds) (vs++dvs) Q E hr I.env0 (hb s us I.kIn hl) r2 h) fun r s' hq=>?_)
 cases r with
 | error e=>exact hx pins σ H s e s' I hq
 | ok fl=>
  cases fl with
  | ret u=>exact I.after hq
  | next=>exact False.elim hq
  | brk=>exact False.elim hq
  | cont=>exact False.elim hq
theorem Zak (F:FnOk X.prog X.w X.K X.mg X.base CX k f fd ps sp)(hr:Room k X.A)(hg:Gl X x)(hm:X.mg x=some (.ref f))(hk:PySem.W.keepIn X.K (.ref f)=true)(hb:Binds X.K fd ps ds)(hd:Vals dvs ds)(hx:Zcc CX X E)
  (ha:PA X (e::es) t) (hdb:(x == ("__debug__":Str))=false:=by decide) (he:starEach (e::es) X.env=(false,eval e X.env)::starEach es X.env:=by rfl) (hpl:(backTo pos (starEach es X.env)).any (·.1)=false:=by rfl):
  PE X (.Call (.Name x p) (e::es) [] pos) (Zji sp dvs E t):=by
 intro pins s σ H Q I h
 refine wpAny_Call_Name_kw (Zdy I hg hm ?_ hdb)
 refine PySem.W.callWith_K (h₀:=X.base) I.ok.mod.kin hk (thn (ha pos pins s σ H _ I h) fun us s1 ⟨vs,H1,I1,r,q⟩=>⟨I1.kIn,?_⟩) he hpl
 exact Zfr F hr hb hd hx I1 r q
theorem ZeU {pl:Sem Bool}(he:PE X o ta)(c:Cls X.K C)(hm:Meth X.K C m f)(F:FnOk X.prog X.w X.K X.mg X.base CX k f fd ps sp)(hr:Room k X.A)(hb:Binds X.K fd ps ds)(hd:Vals dvs ds)(hx:Zcc CX X E)(ha:PA X (e::es) t)
  (hst:starEach (e::es) X.env=(false,eval e X.env)::starEach es X.env:=by rfl) (hpl:(backTo pos (starEach es X.env)).any (·.1)=false:=by rfl)
  (ht:eval (.Call (.Attribute o m apos) (e::es) [] pos) X.env=(do
   let ov ←eval o X.env
   standAt apos.atName
   let (f,first) ←holding [ov] (getMethod ov m pl)
   callWith pos f first (backTo pos (starEach (e::es) X.env)) (backToKw pos (keywordEach [] X.env))):=by rfl):
  PE X (.Call (.Attribute o m apos) (e::es) [] pos) (Zjf C m sp dvs E ta t):=by
 intro pins s σ H Q I h
 refine PySem.W.methodCall_KW (pl:=pl) (thn (he pins s σ H _ I h) fun u s1 ⟨x,H1,I1,rx,a,dx,fs,ex,ea,l,q⟩=>?_) ht
 subst ex
 obtain rfl:u=Value.ref a:=rx
 refine Zb6 I1 ea c hm l ?_
 refine PySem.W.callWith_K (first:=[.ref a]) (h₀:=X.base) I.ok.mod.kin hm.kp (thn (ha pos pins s1 σ H1 _ I1 q) fun us s2 ⟨vs,H2,I2,r,q2⟩=>⟨I2.kIn,?_⟩) hst hpl
 exact Zfr (us:=.ref a::us) (vs:=.ref a::vs) F hr hb hd hx I2 (.cons rfl r) q2
theorem Zfy {pl:Sem Bool}(he:PE X o ta)(c:Cls X.K C)(hm:Meth X.K C m f)(F:FnOk X.prog X.w X.K X.mg X.base CX k f fd ps sp)(hr:Room k X.A)(hb:Binds X.K fd ps ds)(hd:Vals dvs ds)(hx:Zcc CX X E)
  (ht:eval (.Call (.Attribute o m apos) [] [] pos) X.env=(do
   let ov ←eval o X.env
   standAt apos.atName
   let (f,first) ←holding [ov] (getMethod ov m pl)
   callWith pos f first (backTo pos (starEach [] X.env)) (backToKw pos (keywordEach [] X.env))):=by rfl):
  PE X (.Call (.Attribute o m apos) [] [] pos) (Zjf C m sp dvs E ta tNil):=by
 intro pins s σ H Q I h
 refine PySem.W.methodCall_KW (pl:=pl) (thn (he pins s σ H _ I h) fun u s1 ⟨x,H1,I1,rx,a,dx,fs,ex,ea,l,q⟩=>?_) ht
 subst ex
 obtain rfl:u=Value.ref a:=rx
 refine Zb6 I1 ea c hm l ?_
 exact PySem.W.callWith_K0 (first:=[.ref a]) I1.kIn hm.kp (Zfr (us:=[.ref a]) (vs:=[.ref a]) F hr hb hd hx I1 (.cons rfl .nil) q)
structure Mk (K:PySem.W.Frag)(C f:Addr):Prop where
 makes:PySem.W.makesIn K C=true
 init:PySem.W.findIn K (.ref C) "__init__"=some (some (.ref f))
 fn:PySem.W.isFn K (.ref f)=true
 kp:PySem.W.keepIn K (.ref C)=true
theorem ZhZ {pins:List (Addr×Obj)}{σ:St}{H:Hp}{s:Shared}{Q:VK}{us:List Value}{vs:List V}(M:Mk X.K C f)(F:FnOk X.prog X.w X.K X.mg X.base CX k f fd ps sp)(hr:Room (k+1) X.A)(hb:Binds X.K fd ps ds)(hd:Vals dvs ds)
  (hx:Zcc CX X E) (I:Inv X pins σ H s) (r:Vals vs us)
  (h:∀x dx,H x=none→H dx=none→dx≠x→sp (.ref x::(vs++dvs)) (upd (upd H dx (.own x)) x (.ins C dx [])) (fun v H2=>v=.non∧Q (.ref x) H2) E):
  wpAny (model X.prog X.w) X.A (call (.ref C) us) (EP X pins σ Q) X.xe s:=by
 have hq:=h (s.heap.objs.size+1) s.heap.objs.size (I.hok.fresh (Nat.le_succ _)) (I.hok.fresh (Nat.le_refl _)) (Nat.ne_of_lt (Nat.lt_succ_self _))
 have I2:=Inv.made (C:=C) I
 have r2:Vals (V.ref (s.heap.objs.size+1)::(vs++dvs)) (Value.ref (s.heap.objs.size+1)::(us++ds)):=.cons rfl (r.append hd)
 have hl:(Value.ref (s.heap.objs.size+1)::us++ds).length=ps.length:=by
  have e:=r2.length
  rw[F.len _ _ _ _ hq]at e
  exact e.symm
 refine wpAny_call (Zib (f:=f) I.kIn M.makes M.init (beq_iff_eq.mp M.fn) (codeAny_mono (F.run _ X.stack _ _ ⟨Value.ref (s.heap.objs.size+1)::us,[]⟩ (Value.ref (s.heap.objs.size+1)::(us++ds)) _ _ E (hr.make C us [])
  (I2.env0.make C us []) (hb _ (Value.ref (s.heap.objs.size+1)::us) I2.kIn hl) r2 hq) fun r s' hq'=>?_))
 cases r with
 | error e=>exact hx pins σ _ _ e s' I2 hq'
 | ok fl=>
  cases fl with
  | ret u=>
   obtain⟨v,H',I3,rv,ev,q3⟩:=I2.after hq'
   subst ev
   exact⟨rv,⟨V.ref (s.heap.objs.size+1),H',I3,rfl,q3⟩⟩
  | next=>exact False.elim hq'
  | brk=>exact False.elim hq'
  | cont=>exact False.elim hq'
theorem ZjA (M:Mk X.K C f)(F:FnOk X.prog X.w X.K X.mg X.base CX k f fd ps sp)(hr:Room (k+1) X.A)(hg:Gl X x)(hm:X.mg x=some (.ref C))(hb:Binds X.K fd ps ds)(hd:Vals dvs ds)(hx:Zcc CX X E)
  (ha:PA X (e::es) t) (hdb:(x == ("__debug__":Str))=false:=by decide) (he:starEach (e::es) X.env=(false,eval e X.env)::starEach es X.env:=by rfl) (hpl:(backTo pos (starEach es X.env)).any (·.1)=false:=by rfl):
  PE X (.Call (.Name x p) (e::es) [] pos) (Zku C sp dvs E t):=by
 intro pins s σ H Q I h
 refine wpAny_Call_Name_kw (Zdy I hg hm ?_ hdb)
 refine PySem.W.callWith_K (h₀:=X.base) I.ok.mod.kin M.kp (thn (ha pos pins s σ H _ I h) fun us s1 ⟨vs,H1,I1,r,q⟩=>⟨I1.kIn,?_⟩) he hpl
 exact ZhZ M F hr hb hd hx I1 r q
end
section
variable {X:Cx}{CX:CXT}{k:Nat}{f C:Addr}{fd:FuncData}{ps ks:List Str}{sp:Sp}{E:XK}{x m:Str}{p pos apos kpos:Pos}{e o:Expr}{es:List Expr}{kws:List Keyword}{te ta:TE}{t tk:TA}{nm:Option Str}
variable {g:List Value→List Value→List Value}{gV:List V→List V→List V}
end
structure FnScope (N P:List Str)(sc:Scope):Prop where
 kind:sc.kind=.function
 co:sc.isCoroutine=false
 gen:sc.isGenerator=false
 nd:N.Nodup
 pre:N.take P.length=P
 par:∀x∈P,sc.names.lookup x=some .local∨sc.names.lookup x=some .cell
 nofree:∀y∈sc.names,y.2≠.free
theorem ZeB {kindOf:Str→Option NameKind}{x:Str}:∀ {binds:List (Str×Value)} {m:Str→Option Value},(∀v,(x,v)∉binds)→bindL kindOf binds m x=m x
 | [],_,_=>rfl
 | (n,v)::r,m,h=>by
  unfold bindL
  rw[ZeB fun w hw=>h w (List.mem_cons_of_mem _ hw)]
  split
  ·have:x≠n:=by rintro rfl;exact h v List.mem_cons_self
   simp[this]
  ·rfl
theorem ZeD {kindOf:Str→Option NameKind}{x:Str}:∀ {binds:List (Str×Value)} {m:Str→Option Value},(∀v,(x,v)∉binds)→bindC kindOf binds m x=m x
 | [],_,_=>rfl
 | (n,v)::r,m,h=>by
  unfold bindC
  rw[ZeD fun w hw=>h w (List.mem_cons_of_mem _ hw)]
  split
  ·rfl
  ·have:x≠n:=by rintro rfl;exact h v List.mem_cons_self
   simp[this]
theorem ZeC {kindOf:Str→Option NameKind}{x:Str}{v:Value}:∀ {P:List Str} {vs:List Value} {i:Nat} {m:Str→Option Value},P.Nodup→P[i]?=some x→vs[i]?=some v→kindOf x=some .local →
  bindL kindOf (P.zip vs) m x=some v
 | [],_,_,_,_,h,_,_=>by simp at h
 | _::_,[],_,_,_,_,h,_=>by simp at h
 | p::P,w::vs,0,m,nd,h1,h2,hk=>by
  simp at h1 h2;subst h1;subst h2
  show bindL kindOf ((p,w)::P.zip vs) m p=_
  unfold bindL
  rw[ZeB fun v hv=>(List.nodup_cons.mp nd).1 (List.of_mem_zip hv).1,if_pos hk]
  simp
 | p::P,w::vs,i+1,m,nd,h1,h2,hk=>by
  show bindL kindOf ((p,w)::P.zip vs) m x=_
  unfold bindL
  exact ZeC (i:=i) (List.nodup_cons.mp nd).2 (by simpa using h1) (by simpa using h2) hk
theorem ZeE {kindOf:Str→Option NameKind}{x:Str}{v:Value}:∀ {P:List Str} {vs:List Value} {i:Nat} {m:Str→Option Value},P.Nodup→P[i]?=some x→vs[i]?=some v→kindOf x≠some .local →
  bindC kindOf (P.zip vs) m x=some v
 | [],_,_,_,_,h,_,_=>by simp at h
 | _::_,[],_,_,_,_,h,_=>by simp at h
 | p::P,w::vs,0,m,nd,h1,h2,hk=>by
  simp at h1 h2;subst h1;subst h2
  show bindC kindOf ((p,w)::P.zip vs) m p=_
  unfold bindC
  rw[ZeD fun v hv=>(List.nodup_cons.mp nd).1 (List.of_mem_zip hv).1,if_neg hk]
  simp
 | p::P,w::vs,i+1,m,nd,h1,h2,hk=>by
  show bindC kindOf ((p,w)::P.zip vs) m x=_
  unfold bindC
  exact ZeE (i:=i) (List.nodup_cons.mp nd).2 (by simpa using h1) (by simpa using h2) hk
def start (N:List Str)(vs:List V):St:=vs.map some++List.replicate (N.length-vs.length) none
def cxOf (CX:CXT)(P:Program)(w:World)(K:PySem.W.Frag)(mg:Str→Option Value)(base:Heap)(N:List Str)(qual:Str)(scope:Scope)(f:Addr)(cd:Value)(A:Around)(outer:List Env)(s:Shared)(H:Hp)(E:XK):Cx where
 prog:=P
 w:=w
 K:=K
 mg:=mg
 base:=base
 A:=A.deeper (envOfC qual scope s.heap.objs.size f cd)
 N:=N
 s₀:=s
 H₀:=H
 env:=envOfC qual scope s.heap.objs.size f cd
 outer:=outer
 stack:=envOfC qual scope s.heap.objs.size f cd::outer
 ex:=[]
 calm:=true
 fn:=fun _=>true
 pn:=[]
 xe:=fun e s'=>wpAny (model P w) (A.deeper (envOfC qual scope s.heap.objs.size f cd)) (leaving (envOfC qual scope s.heap.objs.size f cd) e) (fun _ s''=>CX outer H s E e s'') (fun e' s''=>CX outer H s E e' s'') s'
theorem ZfV {sc:Scope}{n:Nat}{x:Str}(h:sc.names.lookup x=some .cell):∃c,(cellsFrom n sc.names []).lookup x=some c:=by
 have q:=PySem.W.cellsFrom_some sc.names n [] (.inl h)
 exact Option.isSome_iff_exists.mp q
theorem Zhq {CX:CXT}{P:Program}{w:World}{K:PySem.W.Frag}{mg:Str→Option Value}{base:Heap}{N ps:List Str}{qual:Str}{scope:Scope}{f:Addr}{cd:Value}{A:Around}{outer:List Env}{s s1:Shared}{H:Hp}{E:XK}{us:List Value}{vs:List V}
  (S:FnScope N ps scope) (hd:A.handled=none) (e0:Env0 P w K mg base A outer s H) (hl:vs.length=ps.length) (r:Vals vs us)
  (x:InCallC s s.heap.objs.size (bindL (envOfC qual scope s.heap.objs.size f cd).kindOf (ps.zip us) fun _=>none) (cellsFrom (s.heap.objs.size+1) scope.names []) (bindC (envOfC qual scope s.heap.objs.size f cd).kindOf (ps.zip us) fun _=>none) s1):
  Inv (cxOf CX P w K mg base N qual scope f cd A outer s H E) [] (start N vs) H s1:=by
 have hpl:ps.length≤N.length:=by have:=congrArg List.length S.pre;rw[List.length_take]at this;omega
 obtain⟨h1,tk,rfl,hk⟩:=x.done
 have noA:∀b:Addr,b∉(cxOf CX P w K mg base N qual scope f cd A outer s H E).ex:=fun b z=>absurd (show b∈([]:List Addr) from z) (by simp)
 refine⟨⟨e0.mod,S.kind,rfl,rfl,Nat.le_refl _,fun y z c h1 h2=>?_,fun y hy=>?_,fun y c _ h=>?_,fun _=>hd,Around.frames_deeper e0.frames,.inr ⟨rfl,rfl⟩,fun b z=>absurd z (noA b),e0.bs,e0.bsz,fun b _ _=>noA b,fun b z=>absurd z (noA b),e0.funs,e0.frf⟩,
  rfl,e0.bare,Un.kept hk,⟨_,x.toInCall.ns,fun i y v h1 h2 h3=>?_⟩,fun y c h=>⟨_,x.cell y c h⟩,e0.hok.fresh (Nat.le_refl _),fun y c h=>?_,fun p hp=>absurd (show p∈([]:List (Addr×Obj)) from hp) (by simp),e0.hok.kept hk,?_⟩
 ·exact name_of_addr x.apart (PySem.mem_of_lookup h1) (PySem.mem_of_lookup h2)
 ·have hy:scope.names.lookup y=some .cell∨scope.names.lookup y=some .free:=hy
  rcases hy with hy | hy
  ·exact ZfV hy
  ·exact absurd rfl (S.nofree _ (PySem.mem_of_lookup hy))
 ·exact Nat.le_of_lt (x.above y c (PySem.mem_of_lookup h))
 ·have hi:i<vs.length:=by
   unfold start at h2
   by_cases hi:i<vs.length
   ·exact hi
   ·rw[List.getElem?_append_right (by simpa using hi)]at h2
    rw[List.getElem?_replicate]at h2
    split at h2<;>cases h2
  have ha:vs[i]?=some v:=by
   unfold start at h2
   rw[List.getElem?_append_left (by simpa using hi),List.getElem?_map]at h2
   cases e:vs[i]? with
   | none=>rw[e]at h2;cases h2
   | some a=>rw[e]at h2;cases h2;rfl
  obtain⟨u,hu,rv⟩:=r.get ha
  have hp:ps[i]?=some y:=by
   rw[←S.pre,List.getElem?_take_of_lt (by omega)];exact h1
  have ndP:ps.Nodup:=by rw[←S.pre];exact S.nd.sublist (List.take_sublist _ _)
  refine⟨u,rv,?_⟩
  rcases S.par y (List.mem_of_getElem? hp) with k | k
  ·exact .inl ⟨k,ZeC ndP hp hu k⟩
  ·obtain⟨c,e⟩:=ZfV (n:=s.heap.objs.size+1) k
   refine .inr ⟨.inl k,c,e,?_⟩
   have q:=x.cell y c e
   rw[ZeE ndP hp hu (by show scope.names.lookup y≠_;rw[k];decide)]at q
   exact q
 ·exact e0.hok.fresh (Nat.le_of_lt (x.above y c (PySem.mem_of_lookup h)))
 ·unfold start
  show _=N.length
  rw[List.length_append,List.length_map,List.length_replicate]
  omega
theorem ZlC {CX:CXT}{P:Program}{w:World}{K:PySem.W.Frag}{mg:Str→Option Value}{base:Heap}{k:Nat}{f:Addr}{name qual:Str}{params:Arguments}{body:List Stmt}{scope:Scope}{dV kV doc pm cdv ct oc:Value}{an od:Option Addr}
  {osl:Array (Option Value)} {N ps:List Str} {sp:Sp} (lk:K.lookup f=some ⟨oc,od,.func (PySem.W.fnOf name qual params body scope dV kV doc pm an cdv ct),osl⟩) (hcd:PySem.W.codeIn K cdv qual=true) (S:FnScope N ps scope)
  (len:∀vs H Q E,sp vs H Q E→vs.length=ps.length)
  (hbody:∀(A:Around) (outer:List Env) (s:Shared) (H:Hp) (vs:List V) (Q:VK) (E:XK),Room k (A.deeper (envOfC qual scope s.heap.objs.size f cdv))→sp vs H Q E →
   ∃t,PSs (cxOf CX P w K mg base N qual scope f cdv A outer s H E) body t∧t { nx:=fun _ H'=>Q .non H',rt:=Q } (start N vs) H):
  FnOk P w K mg base CX (k+1) f (PySem.W.fnOf name qual params body scope dV kV doc pm an cdv ct) ps sp:=by
 refine⟨len,fun A outer s H args us vs Q E hr e0 hb r hsp=>?_⟩
 have hl:=len _ _ _ _ hsp
 have KX:K.In s.heap:=e0.mod.kin.keeps fun b o e=>(e0.bs b o e).1
 have lim:s.heap.NoLimit:=e0.mod.nolimit.keeps fun b o e=>(e0.bs b o e).1
 have hkind:∀y∈ps.zip us,scope.names.lookup y.1=some .local∨(scope.names.lookup y.1=some .cell∧((cellsFrom (s.heap.objs.size+1) scope.names []).lookup y.1).isSome=true):=fun ⟨n,v⟩ hy=>by
  rcases S.par n (List.of_mem_zip hy).1 with q | q
  ·exact .inl q
  ·exact .inr ⟨q,PySem.W.cellsFrom_some _ _ _ (.inl q)⟩
 refine codeAny_call_function hr.depth (KX _ _ lk) rfl S.co S.gen rfl (PySem.W.codeRec_of KX hcd) (hb _ _ _ _ ?_)
 refine wpAny_newFunctionEnv_cells S.kind hkind fun env he s1 x=>?_
 subst he
 refine⟨lim.keeps x.toInCall.keep,codeAny_func ?_⟩
 obtain⟨t,ht,hq⟩:=hbody A outer s H vs Q E (hr.deeper _) hsp
 have I:Inv (cxOf CX P w K mg base N qual scope f cdv A outer s H E) [] (start N vs) H s1:=Zhq S hr.hd e0 hl r x
 refine wpAny_mono (ht [] s1 (start N vs) H _ I hq) (fun fl s' hs=>?_) fun e s' hs=>hs
 have fin:∀ {σ':St} {H':Hp} {v:V} {u:Value},Inv (cxOf CX P w K mg base N qual scope f cdv A outer s H E) [] σ' H' s'→RelV v u→Q v H'→CE outer P w H s Q u s':=
  fun {σ' H' v u} J rv q=>⟨v,H',J.os,J.bare,J.base,J.hok,rv,q⟩
 cases fl with
 | ret u=>
  obtain⟨v,σ',H',J,rv,q⟩:=hs
  exact fin J rv q
 | next=>
  obtain⟨σ',H',J,q⟩:=hs
  exact fin (v:=V.non) (u:=Value.none) J rfl q
 | brk=>
  obtain⟨_,_,_,q⟩:=hs
  exact False.elim q
 | cont=>
  obtain⟨_,_,_,q⟩:=hs
  exact False.elim q
section
variable {X:Cx}{x:Str}{p pos:Pos}{e:Expr}{es:List Expr}{t:TA}{id T:String}{r:List V→Hp→VK→Prop}
def tCB (r:List V→Hp→VK→Prop)(t:TA):TE:=fun σ H Q=>t σ H fun vs H1=>r vs H1 Q
theorem Zan (hc:ZbC X (.builtin id) r) (hg:Gl X x) (hm:X.mg x=none) (hv:bootBuiltins x=some (.builtin id)) (ha:PA X (e::es) t) (hn:x≠"__name__":=by decide) (hdb:(x == ("__debug__":Str))=false:=by decide)
  (he:starEach (e::es) X.env=(false,eval e X.env)::starEach es X.env:=by rfl) (hpl:(backTo pos (starEach es X.env)).any (·.1)=false:=by rfl):PE X (.Call (.Name x p) (e::es) [] pos) (tCB r t):=by
 intro pins s σ H Q I h
 refine wpAny_Call_Name_kw (Zc6 I hg hm hv ?_ hn hdb)
 exact PyProof.Rows.callWith_builtin1 (thn (ha pos pins s σ H _ I h) fun us s1 ⟨vs,H1,I1,r1,q1⟩=>hc pins s1 σ H1 vs us Q I1 r1 q1) he hpl
theorem Zbr (hc:ZbC X (.type T) r) (hg:Gl X x) (hm:X.mg x=none) (hv:bootBuiltins x=some (.type T)) (ha:PA X (e::es) t) (hn:x≠"__name__":=by decide) (hdb:(x == ("__debug__":Str))=false:=by decide)
  (he:starEach (e::es) X.env=(false,eval e X.env)::starEach es X.env:=by rfl) (hpl:(backTo pos (starEach es X.env)).any (·.1)=false:=by rfl):PE X (.Call (.Name x p) (e::es) [] pos) (tCB r t):=by
 intro pins s σ H Q I h
 refine wpAny_Call_Name_kw (Zc6 I hg hm hv ?_ hn hdb)
 exact PyProof.Rows.callWith_type1 (thn (ha pos pins s σ H _ I h) fun us s1 ⟨vs,H1,I1,r1,q1⟩=>hc pins s1 σ H1 vs us Q I1 r1 q1) he hpl
end
end L2
namespace HT
open PySem PyProof.Rows
section
open PySem.SeqAt
open PySem.AutoSeq1 (wpAny_loadPart')
open PySem.MeetsSeq PySem.MeetsSeq2 PySem.MeetsSeq3
end
section
variable {prog:Program}{w:World}{A:Around}{E:Value→Shared→Prop}{s:Shared}
def sIx (n d:Nat):Option Int→Nat
 | none=>d
 | some v=>if v<0 then (v+(n:Int)).toNat else min v.toNat n
theorem sIx_none (n d:Nat):sIx n d none=d:=rfl
theorem sIx_nat (n d k:Nat):sIx n d (some (k:Int))=min k n:=by
 show (if (k:Int)<0 then ((k:Int)+(n:Int)).toNat else min (k:Int).toNat n)=min k n
 rw[if_neg (by omega),Int.toNat_natCast]
theorem sIx_le (n d:Nat)(hd:d≤n)(o:Option Int):sIx n d o≤n:=by
 cases o with
 | none=>exact hd
 | some v=>
  show (if v<0 then (v+(n:Int)).toNat else min v.toNat n)≤n
  by_cases hv:v<0
  ·rw[if_pos hv];omega
  ·rw[if_neg hv];exact Nat.min_le_right _ _
theorem clip_eq (v:Int)(n d:Nat):(if v<0 then max (v+(n:Int)) 0 else min v (n:Int))=((sIx n d (some v):Nat):Int):=by
 show (if v<0 then max (v+(n:Int)) 0 else min v (n:Int))=(((if v<0 then (v+(n:Int)).toNat else min v.toNat n):Nat):Int)
 by_cases hv:v<0
 ·simp only[if_pos hv];omega
 ·simp only[if_neg hv];omega
end
end HT
namespace L2
open PySem PySem.Spec PyProof.Rows
abbrev TO:=St→Hp→(Option Int→Hp→Prop)→Prop
def PO (X:Cx)(e:Option Expr)(t:TO):Prop:=
 ∀(pins:List (Addr×Obj)) (s:Shared) (σ:St) (H:Hp) (Q:Option Int→Hp→Prop),Inv X pins σ H s→t σ H Q →
  wpAny (model X.prog X.w) X.A (evalPart e X.env) (fun u s'=>∃o H',Inv X pins σ H' s'∧IsPart u o∧Q o H') X.xe s
def tNoPart:TO:=fun _ H Q=>Q none H
def Zkq (t:TE):TO:=fun σ H Q=>t σ H fun x H1=>∃i,x=.int i∧Q (some i) H1
section
variable {X:Cx}{e:Expr}{te:TE}{lo hi:Option Expr}{tl th:TO}{pos p2:Pos}
theorem Zbq:PO X none tNoPart:=by
 intro pins s σ H Q I h
 rw[evalPart_none]
 exact wpAny_pure ⟨none,H,I,.none,h⟩
theorem Za2 (h:PE X e te):PO X (some e) (Zkq te):=by
 intro pins s σ H Q I hw
 rw[evalPart_some]
 refine thn (h pins s σ H _ I hw) fun u s1 ⟨x,H1,I1,r1,q1⟩=>?_
 obtain⟨i,rfl,q⟩:=q1
 obtain⟨t,rfl⟩:=r1
 exact⟨some i,H1,I1,.int i t,q⟩
def SlR (X:Cx)(r:V→Option Int→Option Int→Hp→VK→Prop):Prop:=
 ∀(pins:List (Addr×Obj)) (s:Shared) (σ:St) (H:Hp) (x:V) (v vl vu:Value) (lo hi:Option Int) (sl:Addr) (Q:VK),Inv X pins σ H s→RelV x v→s.heap.IsSliceOf sl vl vu .none→IsPart vl lo→IsPart vu hi→r x lo hi H Q →
  ∃T id,typeLookup (.type T) "__getitem__"=pure (some (.builtin id))∧s.TypeIs v T∧wpAny (model X.prog X.w) X.A (getItem v (.ref sl)) (EP X pins σ Q) X.xe s
def tSl (r:V→Option Int→Option Int→Hp→VK→Prop)(te:TE)(tl th:TO):TE:=fun σ H Q=>te σ H fun x H1=>tl σ H1 fun l H2=>th σ H2 fun u H3=>r x l u H3 Q
theorem Za1 {r:V→Option Int→Option Int→Hp→VK→Prop}(hr:SlR X r)(he:PE X e te)(hl:PO X lo tl)(hu:PO X hi th):PE X (.Subscript e (.Slice lo hi none p2) pos) (tSl r te tl th):=by
 intro pins s σ H Q I h
 refine Subscript_ (thn (he pins s σ H _ I h) fun v s1 ⟨x,H1,I1,r1,q1⟩=>?_)
 refine wpAny_Slice (thn (hl pins s1 σ H1 _ I1 q1) fun vl s2 ⟨l,H2,I2,pl,q2⟩=>thn (hu pins s2 σ H2 _ I2 q2) fun vu s3 ⟨u,H3,I3,pu,q3⟩=>?_)
 rw[evalPart_none]
 refine wpAny_pure ?_
 have I4:Inv X pins σ H3 { s3 with heap:=s3.heap.push { cls:=.type "slice",data:=.fields #[vl,vu,.none] } }:=I3.kept (t':=s3.toks) fun b ob q=>Heap.get?_push_of_some _ q
 obtain⟨T,id,hT,ht,hg⟩:=hr pins { s3 with heap:=s3.heap.push { cls:=.type "slice",data:=.fields #[vl,vu,.none] } } σ H3 x v vl vu l u s3.heap.objs.size Q I4 r1 (Heap.IsSliceOf.new ..) pl pu q3
 show wpAny (model X.prog X.w) X.A (subscriptTail e (.Slice lo hi none p2) v (.ref s3.heap.objs.size)) (EP X pins σ Q) X.xe { s3 with heap:=s3.heap.push { cls:=.type "slice",data:=.fields #[vl,vu,.none] } }
 exact tail_any (ops:=[.ref s3.heap.objs.size,v]) ht hT hg (by with_unfolding_all rfl)
def cutV (xs:List V)(lo hi:Option Int):List V:=(xs.drop (HT.sIx xs.length 0 lo)).take (HT.sIx xs.length xs.length hi-HT.sIx xs.length 0 lo)
theorem Zfb (xs:List V)(lo hi:Option Int):(cutV xs lo hi).length≤xs.length:=by
 unfold cutV
 rw[List.length_take,List.length_drop]
 omega
end
end L2
namespace L2
open PySem PySem.Spec PyProof.Rows
def ixN (n:Nat)(i:Int):Option Nat:=if 0≤i then (if i<n then some i.toNat else none) else if -(n:Int)≤i then some (i+n).toNat else none
def atI {α:Type}(xs:List α)(i:Int):Option α:=(ixN xs.length i).bind fun j=>xs[j]?
theorem ZjQ {n:Nat}{i:Int}{j:Nat}(h:ixN n i=some j):seqIndex? i n=some j∧j<n∧-(n:Int)≤i∧i<n:=by
 unfold ixN at h
 by_cases h0:0≤i
 ·rw[if_pos h0]at h
  by_cases h1:i<n
  ·rw[if_pos h1]at h
   have e:i.toNat=j:=Option.some.inj h
   exact⟨by rw[seqIndex_of h0 h1,e],by omega,by omega,h1⟩
  ·rw[if_neg h1]at h;cases h
 ·rw[if_neg h0]at h
  by_cases h1:-(n:Int)≤i
  ·rw[if_pos h1]at h
   have e:(i+n).toNat=j:=Option.some.inj h
   exact⟨by rw[seqIndex_neg (by omega) h1,e],by omega,h1,by omega⟩
  ·rw[if_neg h1]at h;cases h
theorem ZhL {α:Type}{xs:List α}{i:Int}{v:α}(h:atI xs i=some v):∃j,seqIndex? i xs.length=some j∧xs[j]?=some v∧j<xs.length∧-(xs.length:Int)≤i∧i<xs.length:=by
 unfold atI at h
 cases e:ixN xs.length i with
 | none=>rw[e]at h;cases h
 | some j=>
  rw[e]at h
  obtain⟨h1,h2,h3,h4⟩:=ZjQ e
  exact⟨j,h1,h,h2,h3,h4⟩
theorem Zkc {α:Type}{xs:List α}{j:Nat}{v:α}(h:xs[j]?=some v):atI xs (j:Int)=some v:=by
 have hj:j<xs.length:=(List.getElem?_eq_some_iff.mp h).1
 have e:ixN xs.length (j:Int)=some j:=by
  unfold ixN
  rw[if_pos (by omega),if_pos (by omega)];simp
 unfold atI;rw[e];exact h
def Zkg (b:Expr):Prop:=∀o i,subscripted b false o i=operate [o,i] (getItem o i)
def IxR (X:Cx)(r:R2):Prop:=
 ∀(value slice:Expr) (pins:List (Addr×Obj)) (s:Shared) (σ:St) (H:Hp) (x y:V) (v u:Value) (Q:VK),Inv X pins σ H s→RelV x v→RelV y u→r x y H Q →
  subscripted slice false v u=operate [v,u] (getItem v u)→wpAny (model X.prog X.w) X.A (subscriptTail value slice v u) (EP X pins σ Q) X.xe s
def MtR (X:Cx)(id:String)(r:V→List V→Hp→VK→Prop):Prop:=
 ∀(pins:List (Addr×Obj)) (s:Shared) (σ:St) (H:Hp) (x:V) (xs:List V) (v:Value) (us:List Value) (Q:VK),Inv X pins σ H s→RelV x v→Vals xs us→r x xs H Q →
  wpAny (model X.prog X.w) X.A (call (.builtin id) (v::us)) (EP X pins σ Q) X.xe s
section
variable {X:Cx}{a b:Expr}{ta tb:TE}{pos:Pos}
theorem Zf8 {r:R2}(hr:IxR X r)(ha:PE X a ta)(hb:PE X b tb)(hs:Zkg b):PE X (.Subscript a b pos) (tOp r ta tb):=by
 intro pins s σ H Q I h
 exact Subscript_ (binT ha hb I h fun v u s2 x y H2 I2 rx ry q=>hr a b pins s2 σ H2 x y v u Q I2 rx ry q (hs _ _))
def rIxL (K:PySem.W.Frag):R2:=fun x y H Q=>∃p xs i v,x=.ref p∧y=.int i∧SqL K H p xs∧atI xs i=some v∧Q v H
def rIxS:R2:=fun x y H Q=>∃z i c,x=.str z∧y=.int i∧z.length≤sizeLine∧atI z.cps.toList i=some c∧Q (.str ⟨#[c]⟩) H
theorem ZjP:IxR X (rIxL X.K):=by
 intro value slice pins s σ H x y v u Q I rx ry h hs
 obtain⟨p,xs,i,z,rfl,rfl,hq,he,q⟩:=h
 cases rx
 obtain⟨t,rfl⟩:=ry
 obtain⟨its,r,pl,hz⟩:=I.list hq
 obtain⟨j,h1,h2,h3,h4,h5⟩:=ZhL he
 obtain⟨w,ew,rw'⟩:=r.get h2
 have hl:=r.length
 have hn:=ZfF
 have fin:EP X pins σ Q w s:=⟨z,H,I,rw',q⟩
 by_cases h0:0≤i
 ·have hj:i.toNat=j:=by
   rw[seqIndex_of h0 h5]at h1
   exact Option.some.inj h1
  exact item_listR pl.isList h0 (by omega) (by rw[hj];simpa using ew) fin hs
 ·have hj:(i+(its.toArray.size:Int)).toNat=j:=by
   rw[seqIndex_neg (by omega) h4]at h1
   rw[List.size_toArray,←hl]
   exact Option.some.inj h1
  exact subscriptTail_builtinR (x:=w) pl.isList.typeIs slot_list_getitem.lookup
   (wpAny_getItem_list_neg (Q:=fun r s'=>r=w∧EP X pins σ Q r s') pl.isList (by omega) (by rw[List.size_toArray]<;>omega) (by omega) (by rw[hj];simpa using ew) ⟨rfl,fin⟩) hs
theorem Zlo:IxR X rIxS:=by
 intro value slice pins s σ H x y v u Q I rx ry h hs
 obtain⟨z,i,c,rfl,rfl,hz,he,q⟩:=h
 obtain⟨t,rfl⟩:=rx
 obtain⟨t',rfl⟩:=ry
 obtain⟨j,h1,h2,h3,h4,h5⟩:=ZhL he
 have hl:z.cps.toList.length=z.length:=by simp[Str.length]
 rw[hl]at h1 h4 h5
 have hn:=ZfF
 exact tail_any (typeIs_str s z t) slot_str_getitem.lookup (getItem_str (c:=c) (by
  have e1:decide (i < -(2 ^ 63:Int))=false:=decide_eq_false (by omega)
  have e2:decide (i≥2 ^ 63)=false:=decide_eq_false (by omega)
  rw[e1,e2,Bool.or_false]) (by rw[h1];simpa using h2) ⟨.str ⟨#[c]⟩,H,I.tok _,⟨_,rfl⟩,q⟩) hs
theorem ZdZ (lo hi:Option Int)(n:Nat):(sliceBounds lo hi none n).1=((HT.sIx n 0 lo:Nat):Int)∧(sliceBounds lo hi none n).2.1=((HT.sIx n n hi:Nat):Int)∧(sliceBounds lo hi none n).2.2=1:=by
 refine⟨?_,?_,rfl⟩
 ·cases lo with
  | none=>simp[sliceBounds,HT.sIx]
  | some i=>
   simp only[sliceBounds,HT.sIx,Option.getD_none,show (1:Int)>0 by decide,if_true]
   by_cases h:i<0
   ·simp only[h,if_true]<;>omega
   ·simp only[h,if_false]<;>omega
 ·cases hi with
  | none=>simp[sliceBounds,HT.sIx]
  | some i=>
   simp only[sliceBounds,HT.sIx,Option.getD_none,show (1:Int)>0 by decide,if_true]
   by_cases h:i<0
   ·simp only[h,if_true]<;>omega
   ·simp only[h,if_false]<;>omega
theorem Zdm (its:List Value)(lo hi:Option Int):slicePick its.toArray lo hi none=((its.drop (HT.sIx its.length 0 lo)).take (HT.sIx its.length its.length hi-HT.sIx its.length 0 lo)).toArray:=by
 obtain⟨h1,h2,h3⟩:=ZdZ lo hi its.toArray.size
 unfold slicePick
 rw[h1,h2,h3]
 simp only[sliceRange_one,pick_run,List.size_toArray]<;>rfl
def rSlL (K:PySem.W.Frag):V→Option Int→Option Int→Hp→VK→Prop:=fun x lo hi H Q=>∃a xs,x=.ref a∧SqL K H a xs∧∀p,H p=none→Q (.ref p) (upd H p (.lst (cutV xs lo hi)))
theorem Zms:SlR X (rSlL X.K):=by
 intro pins s σ H x v vl vu lo hi sl Q I rx hs pl pu h
 obtain⟨a,xs,rfl,hx,q⟩:=h
 cases rx
 obtain⟨its,r,ht,hz⟩:=I.list hx
 have hlen:=r.length
 refine⟨"list",_,slot_list_getitem.lookup,ht.isList.typeIs,?_⟩
 refine wpAny_getItem_list_slice ht.isList hs pl pu .none (by simp) ?_ (by rw[List.size_toArray]<;>omega)
 rw[Zdm,←hlen]
 refine⟨.ref s.heap.objs.size,_,I.laid (t':=s.toks) (o:=.lst (cutV xs lo hi)) (fun b ob q=>Heap.get?_push_of_some _ q) (Nat.le_refl _) ?_,rfl,q _ (I.hok.fresh (Nat.le_refl _))⟩
 exact⟨Nat.le_trans (Zfb xs lo hi) hz,_,0,(r.drop (HT.sIx xs.length 0 lo)).take (HT.sIx xs.length xs.length hi-HT.sIx xs.length 0 lo),Heap.get?_push_size _ rfl⟩
def Zbg:V→Bool
 | .non=>true
 | .bl _=>true
 | .int _=>true
 | .str _=>true
 | _=>false
def eqV:V→V→Bool
 | .non,.non=>true
 | .bl a,.bl b=>a == b
 | .bl a,.int b=>(if a then 1 else 0) == b
 | .int a,.bl b=>a == (if b then 1 else 0)
 | .int a,.int b=>a == b
 | .str a,.str b=>a == b
 | _,_=>false
theorem ZiZ {A:Around}{s:Shared}{y x:V}{u v:Value}(ry:RelV y u)(rx:RelV x v)(fy:Zbg y=true)(fx:Zbg x=true):SeqAt.EqAt A s u v (eqV y x):=by
 cases y with
 | non=>
  cases ry
  cases x with
  | non=>cases rx;exact SeqAt.EqAt.same _
  | bl b=>cases rx;exact SeqAt.EqAt.none_bool b
  | int b=>obtain⟨t,rfl⟩:=rx;exact SeqAt.EqAt.none_int b t
  | str b=>obtain⟨t,rfl⟩:=rx;exact SeqAt.EqAt.none_str b t
  | _=>exact absurd (show false=true from fx) Bool.false_ne_true
 | bl a=>
  cases ry
  cases x with
  | non=>cases rx;exact SeqAt.EqAt.bool_none a
  | bl b=>cases rx;exact SeqAt.EqAt.bool_bool a b
  | int b=>obtain⟨t,rfl⟩:=rx;exact SeqAt.EqAt.bool_int a b t
  | str b=>obtain⟨t,rfl⟩:=rx;exact SeqAt.EqAt.bool_str a b t
  | _=>exact absurd (show false=true from fx) Bool.false_ne_true
 | int a=>
  obtain⟨t',rfl⟩:=ry
  cases x with
  | non=>cases rx;exact SeqAt.EqAt.int_none a t'
  | bl b=>cases rx;exact SeqAt.EqAt.int_bool a t' b
  | int b=>obtain⟨t,rfl⟩:=rx;exact SeqAt.EqAt.int_int a t' b t
  | str b=>obtain⟨t,rfl⟩:=rx;exact SeqAt.EqAt.int_str a t' b t
  | _=>exact absurd (show false=true from fx) Bool.false_ne_true
 | str a=>
  obtain⟨t',rfl⟩:=ry
  cases x with
  | non=>cases rx;exact SeqAt.EqAt.str_none a t'
  | bl b=>cases rx;exact SeqAt.EqAt.str_bool a t' b
  | int b=>obtain⟨t,rfl⟩:=rx;exact SeqAt.EqAt.str_int a t' b t
  | str b=>obtain⟨t,rfl⟩:=rx;exact SeqAt.EqAt.str_str a t' b t
  | _=>exact absurd (show false=true from fx) Bool.false_ne_true
 | _=>exact absurd (show false=true from fy) Bool.false_ne_true
def eqU (x:V)(u:Value):Bool:=match u with
 | .none=>eqV .non x
 | .bool b=>eqV (.bl b) x
 | .int i _=>eqV (.int i) x
 | .str z _=>eqV (.str z) x
 | _=>false
theorem ZiY {x y:V}{u:Value}(r:RelV y u)(f:Zbg y=true):eqU x u=eqV y x:=by
 cases y with
 | non=>cases r;rfl
 | bl b=>cases r;rfl
 | int i=>obtain⟨t,rfl⟩:=r;rfl
 | str z=>obtain⟨t,rfl⟩:=r;rfl
 | _=>exact absurd (show false=true from f) Bool.false_ne_true
theorem ZcQ {x:V}:∀ {xs:List V} {us:List Value},Vals xs us→xs.all Zbg=true→us.any (eqU x)=xs.any fun y=>eqV y x
 | _,_,.nil,_=>rfl
 | y::xs,u::us,.cons r t,f=>by
  rw[List.all_cons,Bool.and_eq_true]at f
  rw[List.any_cons,List.any_cons,ZiY r f.1,ZcQ t f.2]
theorem ZbT {A:Around}{s:Shared}{x:V}{v:Value}(rx:RelV x v)(fx:Zbg x=true):∀ {xs:List V} {us:List Value},Vals xs us→xs.all Zbg=true→∀u∈us,SeqAt.EqAt A s u v (eqU x u)
 | _,_,.nil,_=>fun u hu=>by cases hu
 | y::xs,u::us,.cons r t,f=>fun u' hu=>by
  rw[List.all_cons,Bool.and_eq_true]at f
  rcases List.mem_cons.mp hu with rfl | hu
  ·rw[ZiY r f.1];exact ZiZ r rx f.1 fx
  ·exact ZbT rx fx t f.2 u' hu
def inV (x:V)(xs:List V):Bool:=xs.any fun y=>eqV y x
def rIn (K:PySem.W.Frag)(neg:Bool):R2:=fun x y H Q=>∃p xs,y=.ref p∧(SqL K H p xs∨SqT K H p xs)∧Zbg x=true∧xs.all Zbg=true∧Q (.bl (if neg then !inV x xs else inV x xs)) H
theorem Zg3:OpR X (compareOp .In) (rIn X.K false):=by
 intro pins s σ H x y v u Q I rx ry h
 obtain⟨p,xs,rfl,hq,fx,fs,q⟩:=h
 cases ry
 rcases hq with hq | hq
 ·obtain⟨its,r,pl,hz⟩:=I.list hq
  refine SeqAt.in_listAt (eqU x) pl.isList (fun w hw=>ZbT rx fx r fs w (by simpa using hw)) ⟨.bl _,H,I,rfl,?_⟩
  rw[show its.toArray.any (eqU x)=its.any (eqU x) by simp,ZcQ r fs]
  exact q
 ·obtain⟨its,r,pl,hz⟩:=I.tuple hq
  refine SeqAt.in_tupleAt (eqU x) pl (fun w hw=>ZbT rx fx r fs w (by simpa using hw)) ⟨.bl _,H,I,rfl,?_⟩
  rw[show its.toArray.any (eqU x)=its.any (eqU x) by simp,ZcQ r fs]
  exact q
theorem Zd9:OpR X (compareOp .NotIn) (rIn X.K true):=by
 intro pins s σ H x y v u Q I rx ry h
 obtain⟨p,xs,rfl,hq,fx,fs,q⟩:=h
 cases ry
 rcases hq with hq | hq
 ·obtain⟨its,r,pl,hz⟩:=I.list hq
  refine SeqAt.notIn_listAt (eqU x) pl.isList (fun w hw=>ZbT rx fx r fs w (by simpa using hw)) ⟨.bl _,H,I,rfl,?_⟩
  rw[show its.toArray.any (eqU x)=its.any (eqU x) by simp,ZcQ r fs]
  exact q
 ·obtain⟨its,r,pl,hz⟩:=I.tuple hq
  refine SeqAt.notIn_tupleAt (eqU x) pl (fun w hw=>ZbT rx fx r fs w (by simpa using hw)) ⟨.bl _,H,I,rfl,?_⟩
  rw[show its.toArray.any (eqU x)=its.any (eqU x) by simp,ZcQ r fs]
  exact q
theorem ZeA:ZbC X (.type "list") (fun xs H Q=>∃p ys,xs=[.ref p]∧(SqL X.K H p ys∨SqT X.K H p ys)∧∀l,H l=none→Q (.ref l) (upd H l (.lst ys))):=by
 intro pins s σ H xs us Q I r h
 obtain⟨p,ys,rfl,hq,q⟩:=h
 obtain⟨u,rfl,rx⟩:=vals1 r
 cases rx
 have fin:∀(its:List Value),Vals ys its→ys.length≤sizeLine→∀(h':Heap) (c':Nat),(∀b o',s.heap.get? b=some o'→h'.get? b=some o') →
   h'.get? s.heap.objs.size=some { cls:=.type "list",dict:=none,data:=.seq its.toArray c',slots:=#[] }→EP X pins σ Q (.ref s.heap.objs.size) { s with heap:=h' }:=fun its r' hz h' c' kp e=>
  ⟨.ref s.heap.objs.size,_,I.laid (t':=s.toks) kp (Nat.le_refl _) (show ObjOk X.prog X.w _ h' _ (.lst ys) from⟨hz,its,c',r',e⟩),rfl,q _ (I.hok.fresh (Nat.le_refl _))⟩
 rcases hq with hq | hq
 ·obtain⟨its,r',pl,hz⟩:=I.list hq
  have hlen:=r'.length
  obtain⟨o,ho,hc,n,hd⟩:=pl.isList
  exact call_list_seq p (.inl rfl) ho hc hd (fun h' c' kp e=>fin its r' hz h' c' kp e) (by simp only[List.size_toArray]<;>omega)
 ·obtain⟨its,r',pl,hz⟩:=I.tuple hq
  have hlen:=r'.length
  obtain⟨o,ho,hc,n,hd⟩:=pl
  exact call_list_seq p (.inr rfl) ho hc hd (fun h' c' kp e=>fin its r' hz h' c' kp e) (by simp only[List.size_toArray]<;>omega)
def tyV (K:PySem.W.Frag)(T:String)(x:V)(H:Hp):Prop:=match x with
 | .str _=>T="str"
 | .int _=>T="int"
 | .ref p=>(T="list"∧∃xs,SqL K H p xs)∨(T="tuple"∧∃o,K.lookup p=some o∧o.cls=.type "tuple"∧o.dict=none) ∨
   (T="dict"∧((∃kvs,H p=some (.dK kvs))∨∃kvs,H p=some (.dT kvs)))∨(T="set"∧∃S n,H p=some (.set S n))
 | _=>False
theorem Zkj {pins:List (Addr×Obj)}{σ:St}{H:Hp}{s:Shared}{T:String}{x:V}{v:Value}(I:Inv X pins σ H s)(r:RelV x v)(ty:tyV X.K T x H):
  s.TypeIs v T∧∀a,v=.ref a→∃ob,s.heap.get? a=some ob∧ob.dict=none:=by
 cases x with
 | str z=>
  obtain⟨t,rfl⟩:=r
  cases (show T="str" from ty)
  exact⟨typeIs_str s z t,fun _ e=>nomatch e⟩
 | int i=>
  obtain⟨t,rfl⟩:=r
  cases (show T="int" from ty)
  exact⟨typeIs_int s i t,fun _ e=>nomatch e⟩
 | ref p=>
  cases r
  rcases ty with⟨rfl,xs,hq⟩|⟨rfl,o,hk,hc,hd⟩|⟨rfl,hk⟩|⟨rfl,S,n,hk⟩
  ·obtain⟨its,_,pl,_⟩:=I.list hq
   refine⟨pl.isList.typeIs,fun a e=>?_⟩
   cases e
   obtain⟨o,n,e,c,hd,_⟩:=pl
   exact⟨o,e,hd⟩
  ·refine⟨⟨o,I.kIn p o hk,hc⟩,fun a e=>?_⟩
   cases e
   exact⟨o,I.kIn _ o hk,hd⟩
  ·have z:∃o,s.heap.get? p=some o∧o.ExactDict:=by
    rcases hk with⟨kvs,hk⟩|⟨kvs,hk⟩
    ·obtain⟨_,_,_,_,o,_,_,e,ex,_⟩:=I.hok p _ hk
     exact⟨o,e,ex⟩
    ·obtain⟨_,_,_,_,o,_,_,e,ex,_⟩:=I.hok p _ hk
     exact⟨o,e,ex⟩
   obtain⟨o,e,ex⟩:=z
   refine⟨⟨o,e,ex.1⟩,fun a e2=>?_⟩
   cases e2
   exact⟨o,e,ex.2.1⟩
  ·obtain⟨o,_,_,_,e,ex,_⟩:=I.hok p _ hk
   refine⟨⟨o,e,ex.1⟩,fun a e2=>?_⟩
   cases e2
   exact⟨o,e,ex.2.1⟩
 | _=>exact False.elim ty
def tBM0 (K:PySem.W.Frag)(T:String)(r:V→List V→Hp→VK→Prop)(to:TE):TE:=fun σ H Q=>to σ H fun x H1=>tyV K T x H1∧r x [] H1 Q
def tBM (K:PySem.W.Frag)(T:String)(r:V→List V→Hp→VK→Prop)(to:TE)(t:TA):TE:=fun σ H Q=>to σ H fun x H1=>tyV K T x H1∧t σ H1 fun xs H2=>r x xs H2 Q
variable {o e:Expr}{es:List Expr}{to:TE}{t:TA}{name:Str}{apos cpos:Pos}{T id:String}{r:V→List V→Hp→VK→Prop}
theorem ZeW (pa:PlainAttrs T) (slot:Slot T name id) (hty:typeOf (.builtin id)=pure (.type "method_descriptor")) (hm:MtR X id r) (ho:PE X o to) (ha:PA X (e::es) t)
  (hbase:attributeBase o name X.env (eval o X.env)=eval o X.env:=by rfl)
  (hfew:((backTo cpos (starEach (e::es) X.env)).all (fun x=>!x.1)&&(backToKw cpos (keywordEach [] X.env)).all (fun x=>x.1.isSome)
   && decide ((e::es).length+([]:List Keyword).length+(if ([]:List Keyword).isEmpty then 0 else 1)<30))=true:=by rfl)
  (hline:(apos.endLine == cpos.line)=true:=by rfl) (hs:starEach (e::es) X.env=(false,eval e X.env)::starEach es X.env:=by rfl) (hplain:(backTo cpos (starEach es X.env)).any (·.1)=false:=by rfl):
  PE X (.Call (.Attribute o name apos) (e::es) [] cpos) (tBM X.K T r to t):=by
 intro pins s σ H Q I h
 refine wpAny_Call_method_late hbase hfew hline rfl (thn (ho pins s σ H _ I h) fun v s1 ⟨x,H1,I1,r1,ty,q1⟩=>?_)
 obtain⟨h1,h2⟩:=Zkj I1 r1 ty
 refine⟨T,id,pa,slot,hty,h1,h2,?_⟩
 have hA:=ha cpos pins s1 σ H1 _ I1 q1
 rw[hs]at hA ⊢
 refine Calls.callWith_builtin (by show (false || (backTo cpos (starEach es X.env)).any (·.1))=false;rw[hplain]<;>rfl) (Calls.evalArgs_plain ?_)
 exact thn hA fun us s2 ⟨vs,H2,I2,r2,q2⟩=>hm pins s2 σ H2 x vs v us Q I2 r1 r2 q2
end
def MtM (X:Cx)(id:String)(r:V→List V→Hp→VK→Prop):Prop:=
 ∀(pins:List (Addr×Obj)) (s:Shared) (σ:St) (H:Hp) (x:V) (xs:List V) (v:Value) (us:List Value) (Q:VK),Inv X pins σ H s→RelV x v→Vals xs us→r x xs H Q →
  wpAny (model X.prog X.w) X.A (call (.builtin id) (v::us)) (EP X pins σ Q) X.xe s
theorem Vals.one:∀ {x:V} {us:List Value},Vals [x] us→∃u,us=[u]∧RelV x u
 | _,_,.cons r .nil=>⟨_,rfl,r⟩
theorem Vals.two:∀ {x y:V} {us:List Value},Vals [x,y] us→∃u v,us=[u,v]∧RelV x u∧RelV y v
 | _,_,_,.cons r (.cons q .nil)=>⟨_,_,rfl,r,q⟩
theorem Vals.eraseIdx:∀ {xs:List V} {us:List Value} (i:Nat),Vals xs us→Vals (xs.eraseIdx i) (us.eraseIdx i)
 | _,_,_,.nil=>.nil
 | _,_,0,.cons _ t=>t
 | _,_,i+1,.cons r t=>.cons r (Vals.eraseIdx i t)
theorem Zeg {α:Type}:∀(l:List α) (i:Nat),(l.eraseIdx i).length≤l.length
 | [],_=>Nat.le_refl _
 | _::_,0=>Nat.le_succ _
 | _::r,i+1=>Nat.succ_le_succ (Zeg r i)
section
variable {X:Cx}{pins:List (Addr×Obj)}{σ:St}{H:Hp}{s:Shared}{l b:Addr}{xs ys zs:List V}
theorem Inv.lset {its its':List Value}{n:Nat}{f:Array Value→Array Value}{t':Nat}(I:Inv X pins σ H s)(hH:H l=some (.lst xs))
  (e:s.heap.get? l=some { cls:=.type "list",data:=.seq its.toArray n }) (hf:f its.toArray=its'.toArray) (hv:Vals ys its') (hz:ys.length≤sizeLine):
  Inv X pins σ (upd H l (.lst ys)) { s with heap:=s.heap.update l (Obj.mapSeq f),toks:=t' }:=by
 have q:=PySem.IsL.update e f
 rw[hf]at q
 refine I.write (x:=l) (e:=l) (by rw[hH];exact trivial) (.inl rfl) (fun b' u hb hu=>(Heap.get?_update_other s.heap (Obj.mapSeq f) (Ne.symm hb)).trans hu) ⟨_,q⟩ ?_
 exact⟨hz,its',_,hv,q⟩
theorem Inv.lnew {its:List Value}{t':Nat}(I:Inv X pins σ H s)(hv:Vals ys its)(hz:ys.length≤sizeLine):
  Inv X pins σ (upd H s.heap.objs.size (.lst ys)) { s with heap:=s.heap.push { cls:=.type "list",data:=.seq its.toArray },toks:=t' }:=
 I.laid (fun _ _ q=>Heap.get?_push_of_some _ q) (Nat.le_refl _) ⟨hz,its,0,hv,Heap.get?_push_size _ rfl⟩
theorem Inv.fresh (I:Inv X pins σ H s):H s.heap.objs.size=none:=I.hok.fresh (Nat.le_refl _)
theorem Inv.lstM (I:Inv X pins σ H s)(hH:H l=some (.lst xs)):xs.length≤sizeLine∧∃(its:List Value) (n:Nat),Vals xs its∧xs.length=its.length∧s.heap.get? l=some { cls:=.type "list",data:=.seq its.toArray n }:=by
 obtain⟨z,its,n,r,e⟩:=I.hok l _ hH
 exact⟨z,its,n,r,r.length,e⟩
theorem Zh7 {n:Nat}(h:n≤sizeLine):Builtin.List.listTooLong n=false:=by
 unfold Builtin.List.listTooLong
 exact decide_eq_false (by omega)
end
section
variable {X:Cx}
def rAppend:V→List V→Hp→VK→Prop:=fun x vs H Q=>∃l xs y,x=.ref l∧vs=[y]∧H l=some (.lst xs)∧xs.length<sizeLine∧Q .non (upd H l (.lst (xs++[y])))
theorem Zbk:MtM X "list.append" rAppend:=by
 intro pins s σ H x vs v us Q I rx rv h
 obtain⟨l,xs,y,rfl,rfl,hH,hz,q⟩:=h
 cases rx
 obtain⟨u,rfl,ru⟩:=rv.one
 obtain⟨z,its,n,r,hl,e⟩:=I.lstM hH
 refine call_meets F.slot_list_append ⟨_,e,rfl⟩ F.entry_list_append (F.args_list_append_2 _ _) (PySem.list_append l its.toArray n u (by rw[List.size_toArray];omega)) ⟨e,?_⟩
 refine⟨.non,_,I.lset (its':=its++[u]) hH e (by simp) (r.append (.cons ru .nil)) ?_,rfl,q⟩
 rw[List.length_append,List.length_singleton]
 omega
def rExtend:V→List V→Hp→VK→Prop:=fun x vs H Q=>∃l b xs zs,x=.ref l∧vs=[.ref b]∧H l=some (.lst xs)∧H b=some (.lst zs)∧xs.length+zs.length≤sizeLine∧Q .non (upd H l (.lst (xs++zs)))
theorem Zg9:MtM X "list.extend" rExtend:=by
 intro pins s σ H x vs v us Q I rx rv h
 obtain⟨l,b,xs,zs,rfl,rfl,hH,hB,hz,q⟩:=h
 cases rx
 obtain⟨u,rfl,ru⟩:=rv.one
 cases ru
 obtain⟨z,its,n,r,hl,e⟩:=I.lstM hH
 obtain⟨z2,its2,n2,r2,hl2,e2⟩:=I.lstM hB
 have hsz:its.toArray.size+its2.toArray.size≤sizeLine:=by rw[List.size_toArray,List.size_toArray];omega
 have hlong:¬(!its.toArray.isEmpty&&Builtin.List.listTooLong (its.toArray.size+its2.toArray.size))=true:=by
  rw[Zh7 hsz,Bool.and_false]
  exact Bool.false_ne_true
 refine call_meets F.slot_list_extend ⟨_,e,rfl⟩ F.entry_list_extend (F.args_list_extend_2 _ _)
  (AutoSeq1.list_extend_list_list_0 l its.toArray n b its2.toArray n2 hlong (by rw[List.size_toArray];omega) (by omega)) ⟨e,e2,?_⟩
 refine⟨.non,_,I.lset (its':=its++its2) hH e (by simp) (r.append r2) ?_,rfl,q⟩
 rw[List.length_append]
 omega
def rPopAt:V→List V→Hp→VK→Prop:=fun x vs H Q=>∃l xs i k y,x=.ref l∧vs=[.int i]∧H l=some (.lst xs)∧-(2 ^ 63)≤i∧i<2 ^ 63∧seqIndex? i xs.length=some k∧xs[k]?=some y∧Q y (upd H l (.lst (xs.eraseIdx k)))
theorem Zia:MtM X "list.pop" rPopAt:=by
 intro pins s σ H x vs v us Q I rx rv h
 obtain⟨l,xs,i,k,y,rfl,rfl,hH,h1,h2,hk,hy,q⟩:=h
 cases rx
 obtain⟨u,rfl,ru⟩:=rv.one
 obtain⟨t,rfl⟩:=ru
 obtain⟨z,its,n,r,hl,e⟩:=I.lstM hH
 obtain⟨w,hw,rw'⟩:=r.get hy
 refine call_meets F.slot_list_pop ⟨_,e,rfl⟩ F.entry_list_pop (F.args_list_pop_2 _ _)
  (MeetsSeq.list_pop_at l its.toArray n i t k w (fitsIndex_both h1 h2) (by rw[List.size_toArray,←hl];exact hk) (by rw[←Array.getElem?_toList];exact hw) (by rw[List.size_toArray];omega)) ⟨e,?_⟩
 refine⟨y,_,I.lset (its':=its.eraseIdx k) hH e ?_ (r.eraseIdx k) ?_,rw',q⟩
 ·show its.toArray.eraseIdxIfInBounds k=(its.eraseIdx k).toArray
  rw[List.eraseIdxIfInBounds_toArray]
 ·have:=Zeg xs k
  omega
def rCat:R2:=fun x y H Q=>∃l b xs zs,x=.ref l∧y=.ref b∧H l=some (.lst xs)∧H b=some (.lst zs)∧xs.length+zs.length≤sizeLine∧∀p,H p=none→Q (.ref p) (upd H p (.lst (xs++zs)))
end
section
variable {prog:Program}{w:World}{A:Around}{E:Value→Shared→Prop}{s:Shared}
end
section
variable {X:Cx}
end
end L2
namespace Att
open PySem PySem.W PySem.Calls PyProof.Rows
theorem ZcG {P:Params}{h:Heap}:∀(ns:List Int) (vs:List Value),WellAll P h vs (ns.map WData.int)→IntsAre vs ns:=by
 intro ns
 induction ns with
 | nil=>
  intro vs w
  rw[List.map_nil]at w
  cases w
  exact .nil
 | cons n ns ih=>
  intro vs w
  rw[List.map_cons]at w
  cases w with
  | cons a b=>
   cases a
   exact .cons _ _ (ih _ b)
theorem ZgN {l:OpenLaw}{n:Nat}(hn:l.most=some n){P:Params}{h:Heap}{args:List WData}{vals:List Value}
  (hpre:l.row.toRowW.claim.pre args=true) (hwl:WellAll P h vals args):
  ∃a vs ns,vals=[Value.ref a]∧args=[WData.list (ns.map WData.int)]∧h.get? a=some { cls:=.type "list",data:=.seq vs.toArray }∧IntsAre vs ns∧ns.length≤n:=by
 have hsh:WShape.hasAll [] args [.list .int]=true:=(pre_splitW hpre).1
 have hc:l.pre.holds [] { args:=args }=true:=(pre_splitW hpre).2
 obtain⟨d,r,rfl,h1,h2⟩:=hasAllW_cons hsh
 obtain rfl:=hasAllW_nil h2
 obtain⟨xs,rfl,h3⟩:=hasW_list h1
 obtain⟨ns,rfl⟩:=items_int h3
 have hlen:ns.length≤n:=by
  unfold OpenLaw.pre at hc
  have h4:(WTm.not (.lt (.lit (.int (n:Int))) (.len (.arg 0)))).holds [] { args:=[.list (ns.map .int)] }=true:=by
   have h4:=(holds_andW hc).1
   rw[hn]at h4
   exact h4
  have h5:=condW_of h4 (w_not (w_lt w_lit (w_len_list (w_arg rfl))))
  rw[List.length_map]at h5
  refine Nat.le_of_not_lt fun q=>?_
  have q':(n:Int)<((ns.length:Nat):Int):=by omega
  first
   | (rw[decide_eq_true q']at h5;exact absurd h5 (by decide))
   | (simp at h5;omega)
 cases hwl with
 | cons w1 w2=>
  cases w2
  cases w1 with
  | list ho hall=>exact⟨_,_,ns,rfl,rfl,ho,ZcG ns _ hall,hlen⟩
theorem ZgX (l:OpenLaw)(args:List WData):l.row.toRowW.claim.post args (.bool true) args=true:=
 postW_of (r:=l.row.toRowW) (X:=(true == true))
  (show WShape.has [] (.bool true) .bool=true by first | rfl | decide | simp[WShape.has,WShape.arms,WShape.armsAll])
  (show (WTm.eq .res (.lit (.bool true))).value [] { args:=args,res:=some (.bool true),after:=args }=some (.bool (true == true)) from w_eq_bool (w_res rfl) w_lit) rfl
theorem attach_call {l:OpenLaw}{n:Nat}{q:Program}{loose:List Str}{XP:(Str→Option Value)→Heap→Prop}{YP:World→Heap→Prop}{d:DefRec}
  (hn:l.most=some n) (hdf:d.params.defaults=[])
  (call:∀(w:World) (s₀ s₁:Shared) (mg mb:Str→Option Value) (fa:Addr) (o:Obj) (pm cd doc:Value) (a:Addr) (vs:List Value) (ns:List Int),
   Ground q loose [] XP w s₀ mg mb s₁.heap→YP w s₁.heap →
   s₁.heap.get? fa=some o→o.data=.func (docDef d.name d.params d.body d.scope pm cd doc)→s₁.heap.CodeRec cd d.name→mg d.name=some (.ref fa) →
   s₁.heap.get? a=some { cls:=.type "list",data:=.seq vs.toArray }→IntsAre vs ns→ns.length≤n→s₁.gens=#[] →
   codeAny (model l.prog w) callerA (.call (.ref fa) ⟨[.ref a],[]⟩) (fun r s'=>r=.ok (.ret (.bool true))∧OldK s₁.heap s'.heap∧s'.os=s₁.os∧AllBare s'.gens) s₁):
  WalkO q loose XP YP l.row.toRowW d [] (fun f vs=>PySem.call f vs):=by
 intro w s₀ s₁ mg mb G Y fa o pm cd doc dV kV ho hd hcd hD hmg hg args vals as hpre hlay hrd hwl hlo
 obtain rfl:dV=.none:=Dflts.none hD hdf
 obtain rfl:kV=.none:=Dflts.noKw hD
 obtain⟨a,vs,ns,rfl,rfl,hobj,hints,hlen⟩:=ZgN hn hpre hwl
 refine enter_call (codeAny_mono (call w s₀ s₁ mg mb fa o pm cd doc a vs ns G Y ho (fd_plain hd) hcd hmg hobj hints hlen hg) fun r s' hq=>?_)
 obtain⟨rfl,h2,h3,h4⟩:=hq
 exact⟨.inl ⟨.bool true,.bool true,[],rfl,fun _=>rfl,.bool true,ZgX l _,fun _=>⟨List.Pairwise.nil,fun _ hm=>(nomatch hm)⟩⟩,h2,h3,h4⟩
section
variable {prog:Program}{w:World}{A:Around}{E:Value→Shared→Prop}{s:Shared}{K:Frag}
def ledger (h:Heap)(L d:Addr):List (Addr×Obj):=(List.range h.objs.size).filterMap fun a=>if a=L∨a=d then none else (h.get? a).map fun o=>(a,o)
end
end Att
namespace L2
open PySem PySem.Spec PyProof.Rows
theorem Zcj:∀ {vs:List Value} {ns:List Int},IntsAre vs ns→Vals (ns.map V.int) vs
 | _,_,.nil=>.nil
 | _,_,.cons n t h=>.cons ⟨t,rfl⟩ (Zcj h)
def Only (H:Hp):Prop:=∀b,H b=none∨∃o xs,H b=some (.frz o (.lst xs))
theorem Zig {P:Program}{w:World}{K:PySem.W.Frag}{mg mb:Str→Option Value}{CX:CXT}{k:Nat}{fa a:Addr}{fd:FuncData}{x:Str}{sp:Sp}{s₁:Shared}{vs:List Value}{ns:List Int}
  (KX:K.In s₁.heap) (hns:s₁.heap.Ns mainGlobals mg) (hb:s₁.heap.Ns builtinsNs mb) (hbb:∀x:Str,x≠"__name__"→mb x=bootBuiltins x) (hlim:s₁.heap.NoLimit) (hg:s₁.gens=#[])
  (ha:s₁.heap.get? a=some { cls:=.type "list",data:=.seq vs.toArray }) (hi:IntsAre vs ns) (hl:ns.length≤sizeLine) (hr:Room k callerA)
  (F:∀base:Heap,K.In base→base.Ns mainGlobals mg→FnOk P w K mg base CX k fa fd [x] sp) (hbind:∀(s:Shared) (u:Value),BindsTo s fd ⟨[u],[]⟩ [(x,u)])
  (hsp:∀H:Hp,Only H→SqL K H a (ns.map V.int)→sp [.ref a] H (fun v _=>v=.bl true) fun _ _ _=>False)
  (hCX:∀H e s',CX [] H s₁ (fun _ _ _=>False) e s'→False):
  codeAny (model P w) callerA (.call (.ref fa) ⟨[.ref a],[]⟩) (fun r s'=>r=.ok (.ret (.bool true))∧OldK s₁.heap s'.heap∧s'.os=s₁.os∧AllBare s'.gens) s₁:=by
 have rv:=Zcj hi
 have lenV:=hi.length
 have core:∀H:Hp,Only H→SqL K H a (ns.map V.int)→HOk P w H s₁.heap→(∀b,H b≠none→b=a)→(H a≠none→K.lookup a=none) →
   codeAny (model P w) callerA (.call (.ref fa) ⟨[.ref a],[]⟩) (fun r s'=>r=.ok (.ret (.bool true))∧OldK s₁.heap s'.heap∧s'.os=s₁.os∧AllBare s'.gens) s₁:=by
  intro H hO hS hok hA hK
  have base_of:∀ {b:Addr} {o:Obj},s₁.heap.get? b=some o→H b=none→(hidT s₁.heap H).get? b=some o:=fun e n=>ZfM e n
  have noA:∀ {b:Addr} {o:Obj} {es:Array DictEntry} {ep:Nat},s₁.heap.get? b=some o→o.data=.dict es ep→H b=none:=fun {b o es ep} e d=>by
   cases q:H b with
   | none=>rfl
   | some u=>
    have e':b=a:=hA b (by rw[q];simp)
    subst e'
    rw[ha]at e;cases e
    have d':Data.seq vs.toArray _=Data.dict es ep:=d
    cases d'
  have nsK:∀ {b:Addr} {m:Str→Option Value},s₁.heap.Ns b m→(hidT s₁.heap H).Ns b m:=fun {b m} ⟨o,es,ep,e,d,r⟩=>⟨o,es,ep,base_of e (noA e d),d,r⟩
  have hKb:K.In (hidT s₁.heap H):=fun b o e=>base_of (KX b o e) (by
   cases q:H b with
   | none=>rfl
   | some u=>
    have e':b=a:=hA b (by rw[q];simp)
    subst e'
    rw[hK (by rw[q];simp)]at e;cases e)
  have hM:Mod K mg (hidT s₁.heap H):=⟨hKb,nsK hns,⟨mb,nsK hb,hbb⟩,let ⟨mc,h1,h2⟩:=hlim;⟨mc,nsK h1,h2⟩⟩
  have e0:Env0 P w K mg (hidT s₁.heap H) callerA [] s₁ H:=⟨rfl,hM,fun b o e=>Zg7 e,Nat.le_of_eq (Zem _ _),trivial,fun b hb=>absurd (show b∈([]:List Addr) from hb) (by simp),hok,.of_eq hg⟩
  refine codeAny_mono ((F _ hKb (nsK hns)).run callerA [] s₁ H ⟨[.ref a],[]⟩ [.ref a] [.ref a] _ _ hr e0 (hbind s₁ (.ref a)) (.cons rfl .nil) (hsp H hO hS)) fun r s' h=>?_
  cases r with
  | error e=>exact(hCX H e s' h).elim
  | ok fl=>
   cases fl with
   | next=>exact False.elim h
   | brk=>exact False.elim h
   | cont=>exact False.elim h
   | ret u=>
    obtain⟨v,H',os,bare,un,hok',r',q⟩:=h
    have q':v=.bl true:=q
    subst q'
    obtain rfl:u=Value.bool true:=r'
    refine⟨rfl,OldK.of_keep fun b o e=>?_,os,bare⟩
    cases q:H b with
    | none=>exact un.keep b o e q (by intro z;exact absurd (show b∈([]:List Addr) from z) (by simp)) (by simp)
    | some u=>
     rcases hO b with z | ⟨ob,xs,z⟩
     ·rw[q]at z;cases z
     ·have z2:=un.frzs b ob _ z
      obtain⟨e1,_⟩:=hok b _ z
      obtain⟨e2,_⟩:=hok' b _ z2
      rw[e]at e1;cases e1
      exact e2
 cases hk:K.lookup a with
 | some o=>
  have e:=KX a o hk
  rw[ha]at e
  cases e
  refine core (fun _=>none) (fun _=>.inl rfl) (.inr ⟨_,vs.toArray,_,hk,rfl,rfl,rfl,by rw[List.size_toArray,lenV];exact hl,by simpa using rv⟩) (fun b u z=>by have z':(none:Option HO)=some u:=z;cases z') (fun b z=>absurd rfl z) fun z=>absurd rfl z
 | none=>
  refine core (fun b=>if b=a then some (.frz { cls:=.type "list",data:=.seq vs.toArray } (.lst (ns.map V.int))) else none) (fun b=>?_) (.inl (.inr ⟨{ cls:=.type "list",data:=.seq vs.toArray },if_pos rfl⟩)) (fun b u z=>?_) (fun b z=>?_) fun _=>hk
  ·by_cases hb:b=a
   ·exact .inr ⟨_,_,if_pos hb⟩
   ·exact .inl (if_neg hb)
  ·by_cases hb:b=a
   ·have z':=(if_pos hb).symm.trans z
    cases z'
    subst hb
    exact⟨ha,by rw[List.length_map];exact hl,vs,_,rv,ha⟩
   ·have z':=(if_neg hb).symm.trans z
    cases z'
  ·by_cases hb:b=a
   ·exact hb
   ·exact absurd (if_neg hb) z
end L2
namespace L2
open PySem PySem.Spec PyProof.Rows
abbrev KOf {K:PySem.W.Frag}{h:Heap}(_:K.In h):PySem.W.Frag:=K
theorem ZlP {l:PySem.W.OpenLaw}{n k:Nat}{q:Program}{loose:List Str}{XP:(Str→Option Value)→Heap→Prop}{YP:World→Heap→Prop}{d:DefRec}{K:Params→PySem.W.Frag}{CX:World→CXT}{sp:World→Sp}{x:Str}
  (hn:l.most=some n) (hn2:n≤sizeLine) (hdf:d.params.defaults=[]) (hr:Room k callerA)
  (hY:∀(w:World) (h:Heap),YP w h→(K w.params).In h)
  (F:∀(w:World) (mg:Str→Option Value) (fa:Addr) (h:Heap),(K w.params).In h→h.Ns mainGlobals mg→mg d.name=some (.ref fa) →
   ∃fd:FuncData,(∀(s:Shared) (u:Value),BindsTo s fd ⟨[u],[]⟩ [(x,u)]) ∧
    ∀base:Heap,(K w.params).In base→base.Ns mainGlobals mg→FnOk l.prog w (K w.params) mg base (CX w) k fa fd [x] (sp w))
  (hsp:∀(w:World) (H:Hp) (a:Addr) (ns:List Int),ns.length≤n→Only H→SqL (K w.params) H a (ns.map V.int)→sp w [.ref a] H (fun v _=>v=.bl true) fun _ _ _=>False)
  (hCX:∀(w:World) (H:Hp) (s:Shared) (e:Value) (s':Shared),CX w [] H s (fun _ _ _=>False) e s'→False):
  PySem.W.WalkO q loose XP YP l.row.toRowW d [] (fun f vs=>PySem.call f vs):=by
 refine Att.attach_call hn hdf fun w s₀ s₁ mg mb fa o pm cd doc a vs ns G Y ho hd hcd hmg hobj hints hlen hg=>?_
 have KX:=hY w _ Y
 obtain⟨fd,hb,hF⟩:=F w mg fa _ KX G.T.g hmg
 exact Zig KX G.T.g G.T.b G.T.builtins G.T.nolimit hg hobj hints (Nat.le_trans hlen hn2) hr hF hb (fun H hO hS=>hsp w H a ns hlen hO hS) fun H e s'=>hCX w H s₁ e s'
def inClass (s:Stmt)(j:Nat):Stmt:=match s with
 | .ClassDef _ _ _ body _ _ _ _ _ _ _=>body.getD j (.Pass ⟨0,0,0,0⟩)
 | _=>.Pass ⟨0,0,0,0⟩
def Zbt (s:Stmt):Arguments:=match s with
 | .FunctionDef _ a _ _ _ _ _ _ _ _=>a
 | _=>{ posonlyargs:=[],args:=[],vararg:=none,kwonlyargs:=[],kw_defaults:=[],kwarg:=none,defaults:=[] }
def Zbh (s:Stmt):List Stmt:=match s with
 | .FunctionDef _ _ b _ _ _ _ _ _ _=>b
 | _=>[]
def Zah (s:Stmt):Scope:=match s with
 | .FunctionDef _ _ _ _ _ _ sc _ _ _=>sc
 | _=>{ kind:=.function,names:=[],isGenerator:=false,isCoroutine:=false }
abbrev CX0:CXT:=fun _ _ _ _ _ _=>False
abbrev E0:XK:=fun _ _ _=>False
theorem Zar {X:Cx}:Zcc CX0 X E0:=fun _ _ _ _ _ _ _ h=>h.elim
structure Fun (K:PySem.W.Frag)(x qual:Str)(st:Stmt)(f:Addr)(fd:FuncData):Prop where
 ex:∃(oc:Value) (od:Option Addr) (kV doc pm:Value) (an:Option Addr) (cdv ct:Value) (osl:Array (Option Value)),
  fd=PySem.W.fnOf x qual (Zbt st) (Zbh st) (Zah st) .none kV doc pm an cdv ct∧K.lookup f=some ⟨oc,od,.func fd,osl⟩∧PySem.W.codeIn K cdv qual=true
 kp:PySem.W.keepIn K (.ref f)=true
section
variable {P:Program}{w:World}{K:PySem.W.Frag}{mg:Str→Option Value}{base:Heap}
theorem Fun.ok {x qual:Str}{st:Stmt}{f:Addr}{fd:FuncData}{N ps:List Str}{k:Nat}{sp:Sp}(F:Fun K x qual st f fd)(S:FnScope N ps (Zah st))(len:∀vs H Q E,sp vs H Q E→vs.length=ps.length)
  (hbody:∀(cdv:Value) (A:Around) (outer:List Env) (s:Shared) (H:Hp) (vs:List V) (Q:VK) (E:XK),Room k (A.deeper (envOfC qual (Zah st) s.heap.objs.size f cdv))→sp vs H Q E →
   ∃t,PSs (cxOf CX0 P w K mg base N qual (Zah st) f cdv A outer s H E).nox (Zbh st) t∧t { nx:=fun _ H'=>Q .non H',rt:=Q } (start N vs) H):FnOk P w K mg base CX0 (k+1) f fd ps sp:=by
 obtain⟨oc,od,kV,doc,pm,an,cdv,ct,osl,rfl,lk,hcd⟩:=F.ex
 refine ZlC lk hcd S len fun A outer s H vs Q E hr hsp=>?_
 obtain⟨t,h,q⟩:=hbody cdv A outer s H vs Q E hr hsp
 exact⟨t,h.nox,q⟩
theorem Fun.binds {x qual:Str}{st:Stmt}{f:Addr}{fd:FuncData}{ps:List Str}(F:Fun K x qual st f fd)
  (h:∀(kV doc pm:Value) (an:Option Addr) (cdv ct:Value) (us:List Value),us.length=ps.length→bindArgs (PySem.W.fnOf x qual (Zbt st) (Zbh st) (Zah st) .none kV doc pm an cdv ct) ⟨us,[]⟩=pure (ps.zip us)):Binds K fd ps []:=by
 obtain⟨oc,od,kV,doc,pm,an,cdv,ct,osl,rfl,lk,hcd⟩:=F.ex
 exact .all (h kV doc pm an cdv ct)
theorem ZiV {x qual:Str}{st:Stmt}{f:Addr}{oc:Value}{od an:Option Addr}{osl:Array (Option Value)}{kV doc pm cdv ct:Value}(l:K.lookup f=some ⟨oc,od,.func (PySem.W.fnOf x qual (Zbt st) (Zbh st) (Zah st) .none kV doc pm an cdv ct),osl⟩)
  (c:PySem.W.codeIn K cdv qual=true) (k:PySem.W.keepIn K (.ref f)=true):Fun K x qual st f (PySem.W.fnOf x qual (Zbt st) (Zbh st) (Zah st) .none kV doc pm an cdv ct):=⟨⟨oc,od,kV,doc,pm,an,cdv,ct,osl,rfl,l,c⟩,k⟩
end
theorem ZaN {A:Around}{k:Nat}(hr:Room k A):A.units+1<cLine:=Nat.lt_of_le_of_lt (Nat.add_le_add_left (by decide:1≤64) _) hr.units
theorem Zcl {n:Nat}(h:n≤1000):n<sizeLine:=Nat.lt_of_le_of_lt h (by decide)
section
variable {X:Cx}
theorem pv (i:Nat) {x:Str} {pos:Pos} (hN:X.N[i]?=some x:=by rfl) (hv:Vis X.env.scope x:=by first | exact Or.inl rfl | exact Or.inr (Or.inl rfl) | exact Or.inr (Or.inr rfl)) (hd:(x == ("__debug__":Str))=false:=by decide)
  (hcd:(x == ("__classdict__":Str))=false:=by decide):PE X (.Name x pos) (tVar i):=ZkS hN hv hd hcd
end
theorem iteF {A B:Prop}(h:B):if false=true then A else B:=by
 rw[if_neg Bool.false_ne_true]
 exact h
theorem iteT {A B:Prop}(h:A):if true=true then A else B:=by
 rw[if_pos rfl]
 exact h
theorem ite2 {c A B:Prop}[Decidable c](h1:c→A)(h2:¬c→B):if c then A else B:=by
 by_cases h:c
 ·rw[if_pos h]
  exact h1 h
 ·rw[if_neg h]
  exact h2 h
def Same (H H':Hp):Prop:=∀b o,H b=some o→H' b=some o
theorem Same.refl (H:Hp):Same H H:=fun _ _ h=>h
theorem Same.trans {H H1 H2:Hp}(a:Same H H1)(b:Same H1 H2):Same H H2:=fun c o h=>b c o (a c o h)
theorem Same.free {H H':Hp}(e:Same H H'){l:Addr}(h:H' l=Option.none):H l=Option.none:=by
 cases q:H l with
 | none=>rfl
 | some o=>
  rw[e l o q]at h
  cases h
theorem Same.seq {K:PySem.W.Frag}{H H':Hp}{a:Addr}{xs:List V}(e:Same H H')(h:SqL K H a xs):SqL K H' a xs:=by
 rcases h with (h | ⟨o,h⟩) | h
 ·exact .inl (.inl (e _ _ h))
 ·exact .inl (.inr ⟨o,e _ _ h⟩)
 ·exact .inr h
section
variable {κ:Type}[DecidableEq κ]
def valV (kvs:List (κ×V))(k:κ):Option V:=(kvs.find? fun kv=>decide (kv.1=k)).map (·.2)
def putK (kvs:List (κ×V))(k:κ)(v:V):List (κ×V):=
 if (kvs.any fun kv=>decide (kv.1=k))=true then kvs.map (fun kv=>if kv.1=k then (kv.1,v) else kv) else kvs++[(k,v)]
def ZlH (kvs:List (κ×V))(k:κ):List (κ×V):=kvs.filter fun kv=>decide (kv.1≠k)
theorem ZaP {p:κ×V}{r:List (κ×V)}{k:κ}(e:p.1=k):valV (p::r) k=some p.2:=by simp[valV,List.find?_cons,e]
theorem ZaQ {p:κ×V}{r:List (κ×V)}{k:κ}(e:¬p.1=k):valV (p::r) k=valV r k:=by simp[valV,List.find?_cons,e]
theorem Zbm (k:κ):∀kvs:List (κ×V),(kvs.any fun kv=>decide (kv.1=k))=(valV kvs k).isSome
 | []=>rfl
 | p::r=>by
  rw[List.any_cons]
  by_cases e:p.1=k
  ·simp only[ZaP e,decide_eq_true e,Bool.true_or,Option.isSome_some]
  ·rw[ZaQ e,decide_eq_false e,Bool.false_or];exact Zbm k r
theorem Zfl (k j:κ)(y:V):∀kvs:List (κ×V),valV (kvs.map fun kv=>if kv.1=k then (kv.1,y) else kv) j=(valV kvs j).map fun x=>if j=k then y else x
 | []=>rfl
 | p::r=>by
  have ih:=Zfl k j y r
  rw[List.map_cons]
  by_cases h:p.1=k
  ·rw[if_pos h]
   by_cases e:p.1=j
   ·rw[ZaP (p:=(p.1,y)) e,ZaP e,Option.map_some,if_pos (e.symm.trans h)]
   ·rw[ZaQ (p:=(p.1,y)) e,ZaQ e,ih]
  ·rw[if_neg h]
   by_cases e:p.1=j
   ·rw[ZaP (p:=p) e,ZaP e,Option.map_some,if_neg (fun z=>h (e.trans z))]
   ·rw[ZaQ (p:=p) e,ZaQ e,ih]
theorem ZdR (k j:κ)(y:V):∀kvs:List (κ×V),valV kvs k=none→valV (kvs++[(k,y)]) j=if j=k then some y else valV kvs j
 | [],_=>by
  by_cases e:k=j
  ·rw[if_pos e.symm];exact ZaP (p:=(k,y)) e
  ·rw[if_neg (fun z=>e z.symm)];exact ZaQ (p:=(k,y)) e
 | p::r,hn=>by
  rw[List.cons_append]
  have hk:¬p.1=k:=fun z=>by rw[ZaP z]at hn;cases hn
  rw[ZaQ hk]at hn
  have ih:=ZdR k j y r hn
  by_cases e:p.1=j
  ·rw[ZaP e,ZaP e,if_neg (fun z=>hk (e.trans z))]
  ·rw[ZaQ e,ZaQ e,ih]
theorem ZaO (kvs:List (κ×V))(k j:κ)(y:V):valV (putK kvs k y) j=if j=k then some y else valV kvs j:=by
 unfold putK
 by_cases a:(kvs.any fun kv=>decide (kv.1=k))=true
 ·rw[if_pos a,Zfl]
  rw[Zbm]at a
  by_cases e:j=k
  ·obtain⟨x,hx⟩:=Option.isSome_iff_exists.mp a
   rw[if_pos e,e,hx,Option.map_some,if_pos rfl]
  ·rw[if_neg e]
   cases valV kvs j with
   | none=>rfl
   | some x=>rw[Option.map_some,if_neg e]
 ·rw[if_neg a]
  refine ZdR k j y kvs ?_
  rw[Zbm]at a
  cases q:valV kvs k with
  | none=>rfl
  | some x=>rw[q]at a;exact(a rfl).elim
theorem ZaA (kvs:List (κ×V))(k:κ)(v:V):(putK kvs k v).length≤kvs.length+1:=by
 unfold putK
 split
 ·rw[List.length_map];omega
 ·rw[List.length_append,List.length_cons,List.length_nil];omega
theorem Zdo {kvs:List (κ×V)}{k:κ}(v:V)(h:valV kvs k=none):putK kvs k v=kvs++[(k,v)]:=by
 unfold putK
 rw[Zbm,h]
 exact if_neg (by decide)
theorem RelO.isSome_eq {o:Option V}{u:Option Value}(r:RelO o u):o.isSome=u.isSome:=by
 cases o with
 | none=>cases u with
  | none=>rfl
  | some _=>exact(show False from r).elim
 | some _=>cases u with
  | none=>exact(show False from r).elim
  | some _=>rfl
theorem RelO.getD {o:Option V}{u:Option Value}{d:V}{d':Value}(r:RelO o u)(rd:RelV d d'):RelV (o.getD d) (u.getD d'):=by
 cases o with
 | none=>cases u with
  | none=>exact rd
  | some _=>exact(show False from r).elim
 | some _=>cases u with
  | none=>exact(show False from r).elim
  | some _=>exact r
theorem KV.val {kvs:List (κ×V)}{vs:List (κ×Value)}(r:KV kvs vs)(k:κ):RelO (valV kvs k) (valueAt vs k):=by
 unfold KV at r
 induction r with
 | nil=>exact True.intro
 | @cons p q ps qs h t ih=>
  obtain⟨h1,h2⟩:=h
  by_cases e:p.1=k
  ·have e':q.1=k:=h1.symm.trans e
   have b:valueAt (q::qs) k=some q.2:=by simp[valueAt,List.find?_cons,e']
   rw[ZaP e,b];exact h2
  ·have e':¬q.1=k:=fun z=>e (h1.trans z)
   have b:valueAt (q::qs) k=valueAt qs k:=by simp[valueAt,List.find?_cons,e']
   rw[ZaQ e,b];exact ih
theorem KV.any {kvs:List (κ×V)}{vs:List (κ×Value)}(r:KV kvs vs)(k:κ):(kvs.any fun kv=>decide (kv.1=k))=vs.any fun kv=>decide (kv.1=k):=by
 unfold KV at r
 induction r with
 | nil=>rfl
 | cons h t ih=>rw[List.any_cons,List.any_cons,ih,h.1]
theorem KV.repl {kvs:List (κ×V)}{vs:List (κ×Value)}(r:KV kvs vs)(k:κ){y:V}{u:Value}(ry:RelV y u):
  KV (kvs.map fun kv=>if kv.1=k then (kv.1,y) else kv) (vs.map fun kv=>if kv.1=k then (kv.1,u) else kv):=by
 unfold KV at r ⊢
 induction r with
 | nil=>exact .nil
 | @cons p q ps qs h t ih=>
  rw[List.map_cons,List.map_cons]
  refine .cons ?_ ih
  obtain⟨h1,h2⟩:=h
  by_cases e:p.1=k
  ·rw[if_pos e,if_pos (h1.symm.trans e)];exact⟨h1,ry⟩
  ·rw[if_neg e,if_neg (fun z=>e (h1.trans z))];exact⟨h1,h2⟩
theorem KV.put {kvs:List (κ×V)}{vs:List (κ×Value)}(r:KV kvs vs)(k:κ){y:V}{u:Value}(ry:RelV y u):KV (putK kvs k y) (stored vs k u):=by
 unfold putK stored
 rw[r.any k]
 by_cases e:(vs.any fun kv=>decide (kv.1=k))=true
 ·rw[if_pos e,if_pos e];exact r.repl k ry
 ·rw[if_neg e,if_neg e];exact Paired.snoc r ⟨rfl,ry⟩
theorem KV.drop {kvs:List (κ×V)}{vs:List (κ×Value)}(r:KV kvs vs)(k:κ):KV (ZlH kvs k) (without vs k):=by
 unfold KV at r ⊢
 unfold ZlH without
 induction r with
 | nil=>exact .nil
 | @cons p q ps qs h t ih=>
  obtain⟨h1,h2⟩:=h
  rw[List.filter_cons,List.filter_cons]
  by_cases e:p.1=k
  ·have a:¬decide (p.1≠k)=true:=by simp[e]
   have b:¬decide (q.1≠k)=true:=by simp[h1.symm.trans e]
   rw[if_neg a,if_neg b];exact ih
  ·have e':¬q.1=k:=fun z=>e (h1.trans z)
   have a:decide (p.1≠k)=true:=by simp[e]
   have b:decide (q.1≠k)=true:=by simp[e']
   rw[if_pos a,if_pos b];exact .cons ⟨h1,h2⟩ ih
theorem KV.keys {kvs:List (κ×V)}{vs:List (κ×Value)}(r:KV kvs vs):kvs.map (·.1)=vs.map (·.1):=by
 unfold KV at r
 induction r with
 | nil=>rfl
 | cons h t ih=>rw[List.map_cons,List.map_cons,ih,h.1]
theorem KV.length {kvs:List (κ×V)}{vs:List (κ×Value)}(r:KV kvs vs):kvs.length=vs.length:=Paired.length r
end
theorem ZcW {P:Program}{w:World}{k:Key}{u:Value}(r:RelV (kV k) u):(Zao P w).is k u=true:=by
 cases k with
 | inl i=>obtain⟨t,e⟩:=(show ∃t,u=Value.int i t from r);subst e;exact ZeZ P w i t
 | inr x=>obtain⟨t,e⟩:=(show ∃t,u=Value.str x t from r);subst e;exact Zcu P w x t
theorem Zej {P:Program}{w:World}:∀ {ks:List Key} {us:List Value},Vals (ks.map kV) us→ItemsAre (Zao P w) ks us
 | [],_,r=>by rw[List.map_nil]at r;cases r;exact .nil
 | k::ks,_,r=>by
  rw[List.map_cons]at r
  cases r with
  | cons h t=>exact .cons (ZcW h) (Zej t)
abbrev KT (H:Hp):List (List Key×V)→List (List Key×Addr×Value)→Prop:=Paired fun p q=>p.1=q.1∧H q.2.1=some (.tup (p.1.map kV))∧RelV p.2 q.2.2
theorem KT.val {H:Hp}{kvs:List (List Key×V)}{xs:List (List Key×Addr×Value)}(r:KT H kvs xs)(k:List Key):RelO (valV kvs k) ((atKey xs k).map (·.2)):=by
 induction r with
 | nil=>exact True.intro
 | @cons p q ps qs h t ih=>
  obtain⟨h1,_,h2⟩:=h
  by_cases e:p.1=k
  ·have e':q.1=k:=h1.symm.trans e
   have b:atKey (q::qs) k=some q.2:=by simp[atKey,List.find?_cons,e']
   rw[ZaP e,b];exact h2
  ·have e':¬q.1=k:=fun z=>e (h1.trans z)
   have b:atKey (q::qs) k=atKey qs k:=by simp[atKey,List.find?_cons,e']
   rw[ZaQ e,b];exact ih
theorem KT.repl {H:Hp}{kvs:List (List Key×V)}{xs:List (List Key×Addr×Value)}(r:KT H kvs xs)(k:List Key){y:V}{u:Value}(ry:RelV y u):
  KT H (kvs.map fun kv=>if kv.1=k then (kv.1,y) else kv) (xs.map (putAt k u)):=by
 induction r with
 | nil=>exact .nil
 | @cons p q ps qs h t ih=>
  rw[List.map_cons,List.map_cons]
  refine .cons ?_ ih
  obtain⟨h1,h2,h3⟩:=h
  unfold putAt
  by_cases e:p.1=k
  ·rw[if_pos e,if_pos (h1.symm.trans e)];exact⟨h1,h2,ry⟩
  ·rw[if_neg e,if_neg (fun z=>e (h1.trans z))];exact⟨h1,h2,h3⟩
theorem KT.put {H:Hp}{kvs:List (List Key×V)}{xs:List (List Key×Addr×Value)}(r:KT H kvs xs)(k:List Key){b:Addr}{y:V}{u:Value}(hb:H b=some (.tup (k.map kV)))(ry:RelV y u):
  KT H (putK kvs k y) (storedH xs k b u):=by
 have e:(kvs.any fun kv=>decide (kv.1=k))=(atKey xs k).isSome:=by
  rw[Zbm,(r.val k).isSome_eq,Option.isSome_map]
 unfold putK storedH
 rw[e]
 by_cases q:(atKey xs k).isSome=true
 ·rw[if_pos q,if_pos q];exact r.repl k ry
 ·rw[if_neg q,if_neg q];exact Paired.snoc r ⟨rfl,hb,ry⟩
theorem KT.keeps {H H':Hp}{kvs:List (List Key×V)}{xs:List (List Key×Addr×Value)}(r:KT H kvs xs)(ht:∀b ys,H b=some (.tup ys)→H' b=some (.tup ys)):KT H' kvs xs:=
 Paired.mapP r fun _ _ z=>⟨z.1,ht _ _ z.2.1,z.2.2⟩
section
variable {P:Program}{w:World}{H:Hp}{h:Heap}{a:Addr}
theorem ZkN {u:HO}(ok:HOk P w H h)(e:Rd H a u):ObjOk P w H h a u:=e.ok ok
theorem ZdI {kvs:List (Key×V)}(ok:HOk P w H h)(e:Rd H a (.dK kvs)):kvs.length≤sizeLine∧(a == sysModules)=false∧∃vs,KV kvs vs∧h.DictOf (Zao P w) a vs:=
 show ObjOk P w H h a (.dK kvs) from ZkN ok e
theorem Zgs {kvs:List (Key×V)}(ok:HOk P w H h)(e:H a=some (.dK kvs)):kvs.length≤sizeLine∧(a == sysModules)=false∧∃vs,KV kvs vs∧h.DictOf (Zao P w) a vs:=ZdI ok (.inl e)
theorem ZcE {ks:List Key}(ok:HOk P w H h)(e:H a=some (.tup (ks.map kV))):(tupleKind (Zao P w)).is h ks a:=by
 obtain⟨_,its,r,o,h1,h2,n,h3⟩:=(show ObjOk P w H h a (.tup (ks.map kV)) from ok a _ e)
 exact⟨o,its.toArray,n,h1,h2,h3,by simpa using Zej r⟩
theorem Zeq {kvs:List (List Key×V)}(ok:HOk P w H h)(e:Rd H a (.dT kvs)):kvs.length≤sizeLine∧(a == sysModules)=false ∧
  ∃xs,KT H kvs xs∧h.DictOfH (tupleKind (Zao P w)) a xs:=by
 obtain⟨z,y,xs,r,o,es,ep,h1,h2,h3,h4,h5⟩:=(show ObjOk P w H h a (.dT kvs) from ZkN ok e)
 refine⟨z,y,xs,r,o,es,ep,h1,h2,h3,h4,fun x hx=>?_,h5⟩
 have all:∀ {l:List (List Key×V)} {m:List (List Key×Addr×Value)},KT H l m→∀x∈m,(tupleKind (Zao P w)).is h x.1 x.2.1:=by
  intro l m q
  induction q with
  | nil=>intro x hx;exact nomatch hx
  | @cons p q ps qs hq t ih=>
   intro x hx
   rcases List.mem_cons.mp hx with e | hx
   ·subst e
    exact ZcE ok (by rw[←hq.1];exact hq.2.1)
   ·exact ih x hx
 exact all r x hx
theorem Znq {kvs:List (List Key×V)}(ok:HOk P w H h)(e:H a=some (.dT kvs)):kvs.length≤sizeLine∧(a == sysModules)=false ∧
  ∃xs,KT H kvs xs∧h.DictOfH (tupleKind (Zao P w)) a xs:=Zeq ok (.inl e)
end
def DGet (H:Hp)(a:Addr)(y:V)(r:Option V):Prop:=
 (∃kvs k,Rd H a (.dK kvs)∧y=kV k∧r=valV kvs k)∨∃kvs k b,Rd H a (.dT kvs)∧y=.ref b∧H b=some (.tup (k.map kV))∧r=valV kvs k
def DPut (H:Hp)(a:Addr)(y v:V)(H':Hp):Prop:=
 (∃kvs k,H a=some (.dK kvs)∧y=kV k∧kvs.length<sizeLine∧H'=upd H a (.dK (putK kvs k v))) ∨
 ∃kvs k b,H a=some (.dT kvs)∧y=.ref b∧H b=some (.tup (k.map kV))∧kvs.length<sizeLine∧H'=upd H a (.dT (putK kvs k v))
theorem DGet.k {H:Hp}{a:Addr}{kvs:List (Key×V)}{k:Key}(e:H a=some (.dK kvs)):DGet H a (kV k) (valV kvs k):=.inl ⟨kvs,k,.inl e,rfl,rfl⟩
theorem DGet.t {H:Hp}{a b:Addr}{kvs:List (List Key×V)}{k:List Key}(e:H a=some (.dT kvs))(eb:H b=some (.tup (k.map kV))):DGet H a (.ref b) (valV kvs k):=.inr ⟨kvs,k,b,.inl e,rfl,eb,rfl⟩
theorem DPut.k {H:Hp}{a:Addr}{kvs:List (Key×V)}{k:Key}{v:V}(e:H a=some (.dK kvs))(hl:kvs.length<sizeLine):DPut H a (kV k) v (upd H a (.dK (putK kvs k v))):=.inl ⟨kvs,k,e,rfl,hl,rfl⟩
theorem DPut.t {H:Hp}{a b:Addr}{kvs:List (List Key×V)}{k:List Key}{v:V}(e:H a=some (.dT kvs))(eb:H b=some (.tup (k.map kV)))(hl:kvs.length<sizeLine):
  DPut H a (.ref b) v (upd H a (.dT (putK kvs k v))):=.inr ⟨kvs,k,b,e,rfl,eb,hl,rfl⟩
section
variable {X:Cx}{pins:List (Addr×Obj)}{σ:St}{H:Hp}{s:Shared}{a:Addr}{y v:V}{u r:Value}{o:Option V}{A:Around}{E:Value→Shared→Prop}
theorem Inv.big (I:Inv X pins σ H s):sysModules<s.heap.objs.size:=by
 have h:mainGlobals<s.heap.objs.size:=(I.mod.glob.keeps I.bk).lt
 exact Nat.lt_trans (by decide) h
theorem Zex {Q:Value→Shared→Prop}(hu:A.units+1<cLine)(I:Inv X pins σ H s)(g:DGet H a y (some v))(ry:RelV y u)(h:∀w' s',Inv X pins σ H s'→RelV v w'→Q w' s'):
  wpAny (model X.prog X.w) A (getItem (.ref a) u) Q E s:=by
 rcases g with⟨kvs,k,e,ey,l⟩|⟨kvs,k,b,e,ey,eb,l⟩
 ·subst ey
  obtain⟨z,hd,vs,rel,dd⟩:=ZdI I.hok e
  obtain⟨w',hw,rw'⟩:=RelO.some_of (v:=v) (o:=valueAt vs k) (by rw[l];exact rel.val k)
  exact wpAny_getItem_of (ZcW ry) dd.mapOf hw (h w' _ (I.tok _) rw')
 ·subst ey
  cases (show u=Value.ref b from ry)
  obtain⟨z,hd,xs,rel,dd⟩:=Zeq I.hok e
  obtain⟨w',hw,rw'⟩:=RelO.some_of (v:=v) (o:=(atKey xs k).map (·.2)) (by rw[l];exact rel.val k)
  obtain⟨p,hp,hp2⟩:=Option.map_eq_some_iff.mp hw
  refine wpAny_getItem_heap (tupleKind_room_in1 hu) (ZcE I.hok eb) dd hp ?_
  rw[hp2]
  exact h w' _ (I.tok _) rw'
theorem d_in {Q:Value→Shared→Prop}(hu:A.units+1<cLine)(I:Inv X pins σ H s)(g:DGet H a y o)(ry:RelV y u)(h:∀s',Inv X pins σ H s'→Q (.bool o.isSome) s'):
  wpAny (model X.prog X.w) A (compareOp .In u (.ref a)) Q E s:=by
 rcases g with⟨kvs,k,e,ey,l⟩|⟨kvs,k,b,e,ey,eb,l⟩
 ·subst ey
  obtain⟨z,hd,vs,rel,dd⟩:=ZdI I.hok e
  refine wpAny_in_of (ZcW ry) hd dd.mapOf ?_
  rw[←(rel.val k).isSome_eq,←l]
  exact h _ (I.tok _)
 ·subst ey
  cases (show u=Value.ref b from ry)
  obtain⟨z,hd,xs,rel,dd⟩:=Zeq I.hok e
  refine wpAny_in_heap (tupleKind_room_in1 hu) (ZcE I.hok eb) hd dd ?_
  have q:=(rel.val k).isSome_eq
  rw[Option.isSome_map]at q
  rw[←q,←l]
  exact h _ (I.tok _)
theorem Zj4 {Q:Value→Shared→Prop}(hu:A.units+1<cLine)(I:Inv X pins σ H s)(g:DGet H a y o)(ry:RelV y u)(h:∀s',Inv X pins σ H s'→Q (.bool (!o.isSome)) s'):
  wpAny (model X.prog X.w) A (compareOp .NotIn u (.ref a)) Q E s:=by
 rcases g with⟨kvs,k,e,ey,l⟩|⟨kvs,k,b,e,ey,eb,l⟩
 ·subst ey
  obtain⟨z,hd,vs,rel,dd⟩:=ZdI I.hok e
  refine wpAny_notIn_of (ZcW ry) hd dd.mapOf ?_
  rw[←(rel.val k).isSome_eq,←l]
  exact h _ (I.tok _)
 ·subst ey
  cases (show u=Value.ref b from ry)
  obtain⟨z,hd,xs,rel,dd⟩:=Zeq I.hok e
  refine wpAny_notIn_heap (tupleKind_room_in1 hu) (ZcE I.hok eb) hd dd ?_
  have q:=(rel.val k).isSome_eq
  rw[Option.isSome_map]at q
  rw[←q,←l]
  exact h _ (I.tok _)
theorem ZcK {h':Heap}{t':Nat}{ob:HO}(I:Inv X pins σ H s)(mu:Mut (H a))(hs:Heap.SameBut a s.heap h')(he:∃q,h'.get? a=some q)(new:ObjOk X.prog X.w (upd H a ob) h' a ob):
  Inv X pins σ (upd H a ob) { s with heap:=h',toks:=t' }:=
 I.write (x:=a) (e:=a) mu (.inl rfl) (fun b q hb z=>(hs.2 b hb).trans z) he new
theorem Zes {P:Program}{w:World}{H':Hp}{h':Heap}{kvs:List (Key×V)}{vs:List (Key×Value)}(z:kvs.length≤sizeLine)(hd:(a == sysModules)=false)(rel:KV kvs vs)(dd:h'.DictOf (Zao P w) a vs):
  ObjOk P w H' h' a (.dK kvs):=⟨z,hd,vs,rel,dd⟩
theorem Zew {H':Hp}{Q:Unit→Shared→Prop}(hu:A.units+1<cLine)(I:Inv X pins σ H s)(g:DPut H a y v H')(ry:RelV y u)(rv:RelV v r)(h:∀s',Inv X pins σ H' s'→Q () s'):
  wpAny (model X.prog X.w) A (setItem (.ref a) u r) Q E s:=by
 rcases g with⟨kvs,k,e,ey,l,eH⟩|⟨kvs,k,b,e,ey,eb,l,eH⟩
 ·subst ey eH
  obtain⟨z,hd,vs,rel,dd⟩:=Zgs I.hok e
  have hz:vs.length≤sizeLine:=by rw[←rel.length];exact z
  have hl:(putK kvs k v).length≤sizeLine:=by have:=ZaA kvs k v;omega
  refine wpAny_setItem_pairs (hsz:=hz) (ZcW ry) dd fun h' dd' hs=>h _ ?_
  have he:∃q,h'.get? a=some q:=let ⟨q,_,_,hq,_⟩:=dd';⟨q,hq⟩
  exact ZcK I (by rw[e];exact True.intro) hs he (Zes hl hd (rel.put k rv) dd')
 ·subst ey eH
  cases (show u=Value.ref b from ry)
  obtain⟨z,hd,xs,rel,dd⟩:=Znq I.hok e
  have hz:xs.length≤sizeLine:=by rw[←Paired.length rel];exact z
  have hl:(putK kvs k v).length≤sizeLine:=by have:=ZaA kvs k v;omega
  refine wpAny_setItem_heap (hsz:=hz) (tupleKind_room_in1 hu) (ZcE I.hok eb) dd fun h' dd' hs=>h _ ?_
  obtain⟨q,es,ep,hq,h2,h3,h4,_,h5⟩:=dd'
  refine ZcK I (by rw[e];exact True.intro) hs ⟨q,hq⟩ ⟨hl,hd,_,(rel.put k eb rv).keeps fun c ys ec=>?_,q,es,ep,hq,h2,h3,h4,h5⟩
  rw[Zab (Zni ec e (fun z=>nomatch z))]
  exact ec
end
section
variable {X:Cx}{pins:List (Addr×Obj)}{σ:St}{H:Hp}{s:Shared}{a:Addr}{kvs:List (Key×V)}{k:Key}{u:Value}{A:Around}{E:Value→Shared→Prop}
theorem Zns {Q:Value→Shared→Prop}(I:Inv X pins σ H s)(e:Rd H a (.dK kvs))(h:∀t s',Inv X pins σ H s'→Q (.int kvs.length t) s'):wpAny (model X.prog X.w) A (call (.builtin "len") [.ref a]) Q E s:=by
 obtain⟨z,hd,vs,rel,dd⟩:=ZdI I.hok e
 refine call_len_dict hd dd (by rw[←rel.length];rw[sizeLine_eq]at z;omega) ?_
 rw[←rel.length]
 exact h _ _ (I.tok _)
end
def NoSl (i:Expr):Prop:=∀ov iv,subscripted i false ov iv=operate [ov,iv] (getItem ov iv)
theorem Zjj {prog:Program}{w:World}{A:Around}{E:Value→Shared→Prop}{s:Shared}{env:Env}{value slice:Expr}{pos:Pos}{T id:String}{Q:Value→Shared→Prop}
  (hl:typeLookup (.type T) "__getitem__"=pure (some (.builtin id))) (hs:NoSl slice)
  (h:wpAny (model prog w) A (eval value env) (fun o s₁=>wpAny (model prog w) A (eval slice env) (fun i s₂=>s₂.TypeIs o T∧wpAny (model prog w) A (getItem o i) Q E s₂) E s₁) E s):
  wpAny (model prog w) A (eval (.Subscript value slice pos) env) Q E s:=by
 refine Subscript_ (wpAny_mono h (fun o s₁ h₁=>wpAny_mono h₁ (fun i s₂ h₂=>?_) fun _ _ x=>x) fun _ _ x=>x)
 obtain⟨hT,h₂⟩:=h₂
 unfold subscriptTail
 refine wpAny_bind ?_
 rw[getitemInPython_of_ne hT.not_modules]
 refine wpAny_bind (wpAny_specialOf hT hl ?_)
 have fin:wpAny (model prog w) A (subscripted slice false o i) (fun r s₃=>wpAny (model prog w) A (letTemporaryGo value o r >>= fun _=>pure r) Q E s₃) E s₂:=by
  rw[hs o i]
  exact wpAny_operating (wpAny_mono h₂ (fun r s₃ h₃=>wpAny_bind (wpAny_letTemporaryGo (wpAny_pure h₃))) fun _ _ x=>x)
 first
  | exact wpAny_pure (wpAny_bind fin)
  | exact wpAny_bind (wpAny_pure (wpAny_bind fin))
  | exact wpAny_bind fin
theorem Ze6 {X:Cx}{pins:List (Addr×Obj)}{σ:St}{H:Hp}{s:Shared}{a:Addr}{y:V}{o:Option V}(I:Inv X pins σ H s)(g:DGet H a y o):s.TypeIs (.ref a) "dict":=by
 rcases g with⟨kvs,k,e,_,_⟩|⟨kvs,k,b,e,_,_,_⟩
 ·obtain⟨_,_,vs,_,dd⟩:=ZdI I.hok e
  exact dd.typeIs
 ·obtain⟨_,_,xs,_,dd⟩:=Zeq I.hok e
  exact dd.typeIs
def ZkC (td ty:TE):TE:=fun σ H Q=>td σ H fun x H1=>ty σ H1 fun y H2=>∃a v,x=.ref a∧DGet H2 a y (some v)∧Q v H2
def tDIn (ty td:TE):TE:=fun σ H Q=>ty σ H fun y H1=>td σ H1 fun x H2=>∃a o,x=.ref a∧DGet H2 a y o∧Q (.bl o.isSome) H2
def ZgH (ty td:TE):TE:=fun σ H Q=>ty σ H fun y H1=>td σ H1 fun x H2=>∃a o,x=.ref a∧DGet H2 a y o∧Q (.bl (!o.isSome)) H2
def ZkK (td ty tv:TE):TS:=fun D σ H=>tv σ H fun v H1=>td σ H1 fun x H2=>ty σ H2 fun y H3=>∃a H4,x=.ref a∧DPut H3 a y v H4∧D.nx σ H4
def ZkL (td ty tv:TE)(rd:V→V→Hp→VK→Prop):TS:=fun D σ H=>td σ H fun x H1=>ty σ H1 fun y H2=>∃a v,x=.ref a∧DGet H2 a y (some v) ∧
 tv σ H2 fun y2 H3=>rd v y2 H3 fun z H4=>∃H5,DPut H4 a y z H5∧D.nx σ H5
section
variable {X:Cx}{o i e value:Expr}{pos pos' tpos:Pos}{td ty tv:TE}
theorem Zbe (hu:X.A.units+1<cLine)(ho:PE X o td)(hi:PE X i ty)(hs:NoSl i):PE X (.Subscript o i pos) (ZkC td ty):=by
 intro pins s σ H Q I h
 refine Zjj PySem.F.slot_dict_getitem.lookup hs (thn (ho pins s σ H _ I h) fun u s1 ⟨x,H1,I1,rx,q1⟩=>thn (hi pins s1 σ H1 _ I1 q1) fun iv s2 ⟨y,H2,I2,ry,a,v,ex,g,q2⟩=>?_)
 subst ex
 obtain rfl:u=Value.ref a:=rx
 exact⟨Ze6 I2 g,Zex hu I2 g ry fun w' s3 I3 rw'=>⟨v,H2,I3,rw',q2⟩⟩
theorem ZiM (hu:X.A.units+1<cLine)(hi:PE X i ty)(ho:PE X o td):PC X .In i o (tDIn ty td):=by
 intro pins s σ H Q I h
 refine thn (hi pins s σ H _ I h) fun iv s1 ⟨y,H1,I1,ry,q1⟩=>thn (ho pins s1 σ H1 _ I1 q1) fun u s2 ⟨x,H2,I2,rx,a,ov,ex,g,q2⟩=>?_
 subst ex
 obtain rfl:u=Value.ref a:=rx
 exact d_in hu I2 g ry fun s3 I3=>⟨.bl ov.isSome,H2,I3,rfl,q2⟩
theorem Zd8 (hu:X.A.units+1<cLine)(hi:PE X i ty)(ho:PE X o td):PC X .NotIn i o (ZgH ty td):=by
 intro pins s σ H Q I h
 refine thn (hi pins s σ H _ I h) fun iv s1 ⟨y,H1,I1,ry,q1⟩=>thn (ho pins s1 σ H1 _ I1 q1) fun u s2 ⟨x,H2,I2,rx,a,ov,ex,g,q2⟩=>?_
 subst ex
 obtain rfl:u=Value.ref a:=rx
 exact Zj4 hu I2 g ry fun s3 I3=>⟨.bl (!ov.isSome),H2,I3,rfl,q2⟩
theorem ZbG (hu:X.A.units+1<cLine)(ho:PE X o td)(hi:PE X i ty)(hv:PE X value tv)(hs:swapsWith value (some (.Subscript o i pos')) pos.line X.env=pure false):
  PS X (.Assign [.Subscript o i pos'] value pos) (ZkK td ty tv):=by
 intro pins s σ H D I h
 refine wpAny_Assign_Subscript (thn (hv pins s σ H _ I h) fun r s1 ⟨v,H1,I1,rv,q1⟩=>thn (ho pins s1 σ H1 _ I1 q1) fun u s2 ⟨x,H2,I2,rx,q2⟩=>thn (hi pins s2 σ H2 _ I2 q2) fun iv s3 ⟨y,H3,I3,ry,a,H4,ex,g,q3⟩=>?_) hs
 subst ex
 obtain rfl:u=Value.ref a:=rx
 exact Zew hu I3 g ry rv fun s4 I4=>⟨σ,H4,I4,q3⟩
theorem Zjy {op:Operator}{rd:V→V→Hp→VK→Prop}(hu:X.A.units+1<cLine)(ho:PE X o td)(hi:PE X i ty)(hv:PE X value tv)(hop:InOp X op rd)
  (ha:∀ov iv new,augStore i ov iv new=(do holding [new,ov,iv] (setItem ov iv new);release [new,ov,iv] [];pure .next)):PS X (.AugAssign (.Subscript o i tpos) op value pos) (ZkL td ty tv rd):=by
 intro pins s σ H D I h
 refine wpAny_AugAssign_SubscriptAny (thn (ho pins s σ H _ I h) fun u s1 ⟨x,H1,I1,rx,q1⟩=>thn (hi pins s1 σ H1 _ I1 q1) fun iv s2 ⟨y,H2,I2,ry,a,v,ex,g,q2⟩=>?_) ha
 subst ex
 obtain rfl:u=Value.ref a:=rx
 refine Zex hu I2 g ry fun w' s3 I3 rw'=>thn (hv pins s3 σ H2 _ I3 q2) fun w2 s4 ⟨y2,H3,I4,ry2,q3⟩=>thn (hop pins s4 σ H3 v y2 w' w2 _ I4 rw' ry2 q3) fun w3 s5 ⟨z,H4,I5,rz,H5,g5,q4⟩=>?_
 exact Zew hu I5 g5 ry rz fun s6 I6=>⟨σ,H5,I6,q4⟩
end
theorem ZfR {P:Program}{w:World}{H:Hp}(h:Heap)(hb:sysModules<h.objs.size):ObjOk P w H (h.push { cls:=.type "dict",data:=.dict #[] }) h.objs.size (.dK []):=
 ⟨Nat.zero_le _,beq_eq_false_iff_ne.mpr (Ne.symm (Nat.ne_of_lt hb)),[],.nil,Heap.DictOf.new h⟩
def tDNewK:TE:=fun _ H Q=>∀p,H p=none→Q (.ref p) (upd H p (.dK []))
def ZkA:TE:=fun _ H Q=>∀p,H p=none→Q (.ref p) (upd H p (.dT []))
section
variable {X:Cx}{pos:Pos}
theorem Zbx:PE X (.Dict [] [] pos) tDNewK:=fun pins s σ H Q I h=>
 wpAny_Dict_empty ⟨.ref s.heap.objs.size,_,I.laid (a:=s.heap.objs.size) (o:=.dK []) (t':=s.toks) (fun _ _ q=>Heap.get?_push_of_some _ q) (Nat.le_refl _) (ZfR s.heap I.big),rfl,h _ (I.hok.fresh (Nat.le_refl _))⟩
end
def Zfo:List (TE×TE)→St→Hp→(List (V×V)→Hp→Prop)→Prop
 | [],_,H,Q=>Q [] H
 | (tk,tv)::r,σ,H,Q=>tk σ H fun x H1=>tv σ H1 fun y H2=>Zfo r σ H2 fun ps H3=>Q ((x,y)::ps) H3
abbrev VV:List (V×V)→List (Value×Value)→Prop:=Paired fun p q=>RelV p.1 q.1∧RelV p.2 q.2
def PPs (X:Cx)(pos:Pos)(keys:List (Option Expr))(values:List Expr)(trs:List (TE×TE)):Prop:=
 ∀(pins:List (Addr×Obj)) (s:Shared) (σ:St) (H:Hp) (Q:List (V×V)→Hp→Prop),Inv X pins σ H s→Zfo trs σ H Q →
  wpAny (model X.prog X.w) X.A (evalPairs (pairTrees keys values X.env pos)) (fun vs s'=>∃ps H',Inv X pins σ H' s'∧VV ps vs∧Q ps H') X.xe s
theorem ZgW {X:Cx}{pos:Pos}:PPs X pos [] [] []:=fun pins s σ H Q I h=>pairTrees_nil_walk ⟨[],H,I,.nil,h⟩
theorem Zfw {X:Cx}{pos:Pos}{k v:Expr}{ks:List (Option Expr)}{vs:List Expr}{tk tv:TE}{trs:List (TE×TE)}(hk:PE X k tk)(hv:PE X v tv)(hr:PPs X pos ks vs trs):
  PPs X pos (some k::ks) (v::vs) ((tk,tv)::trs):=fun pins s σ H Q I h=>
 pairTrees_cons_walk (thn (hk pins s σ H _ I h) fun u s1 ⟨x,H1,I1,rx,q1⟩=>thn (hv pins s1 σ H1 _ I1 q1) fun w2 s2 ⟨y,H2,I2,ry,q2⟩=>
  thn (hr pins s2 σ H2 _ I2 q2) fun ws s3 ⟨ps,H3,I3,rel,q3⟩=>⟨(x,y)::ps,H3,I3,.cons ⟨rx,ry⟩ rel,q3⟩)
def ZaD (kvs more:List (Key×V)):List (Key×V):=more.foldl (fun acc kv=>putK acc kv.1 kv.2) kvs
theorem KV.merge:∀ {more:List (Key×V)} {rs:List (Key×Value)} {kvs:List (Key×V)} {vs:List (Key×Value)},KV more rs→KV kvs vs→KV (ZaD kvs more) (merged vs rs):=by
 intro more rs kvs vs r
 unfold KV at r
 induction r generalizing kvs vs with
 | nil=>intro q;exact q
 | @cons p q ps qs h t ih=>
  intro r0
  have e:KV (putK kvs p.1 p.2) (stored vs q.1 q.2):=by
   have:=r0.put p.1 h.2
   rw[←h.1];exact this
  exact ih e
theorem ZaL:∀(more kvs:List (Key×V)),(ZaD kvs more).length≤kvs.length+more.length
 | [],kvs=>by show kvs.length≤kvs.length+0;omega
 | p::r,kvs=>by
  have h1:=ZaL r (putK kvs p.1 p.2)
  have h2:=ZaA kvs p.1 p.2
  show (ZaD (putK kvs p.1 p.2) r).length≤_
  rw[List.length_cons];omega
theorem Zdg {P:Program}{w:World}:∀ {kvs:List (Key×V)} {ws:List (Value×Value)},VV (kvs.map fun kv=>(kV kv.1,kv.2)) ws→∃rs,Carries (Zao P w) ws rs∧KV kvs rs
 | [],_,r=>by rw[List.map_nil]at r;cases r;exact⟨[],True.intro,.nil⟩
 | p::kvs,_,r=>by
  rw[List.map_cons]at r
  cases r with
  | @cons a b as bs h t=>
   obtain⟨rs,c,q⟩:=Zdg (P:=P) (w:=w) t
   obtain⟨b1,b2⟩:=b
   exact⟨(p.1,b2)::rs,⟨ZcW h.1,rfl,c⟩,.cons ⟨rfl,h.2⟩ q⟩
def Zkx (trs:List (TE×TE)):TE:=fun σ H Q=>∀p,H p=none→Zfo trs σ (upd H p (.dK [])) fun ps H2=>H2 p=some (.dK [])∧∃kvs:List (Key×V),ps=kvs.map (fun kv=>(kV kv.1,kv.2))∧kvs.length≤15∧Q (.ref p) (upd H2 p (.dK (ZaD [] kvs)))
theorem Zg0 {X:Cx}{pos:Pos}{keys:List (Option Expr)}{values:List Expr}{trs:List (TE×TE)}(h:PPs X pos keys values trs)(hall:keys.all (·.isSome)=true)(hl:keys.length=values.length)(h0:keys≠[])
  (h15:keys.length≤15):PE X (.Dict keys values pos) (Zkx trs):=by
 intro pins s σ H Q I q
 have hn:=I.hok.fresh (Nat.le_refl s.heap.objs.size)
 have I1:=I.laid (a:=s.heap.objs.size) (o:=.dK []) (h':=s.heap.push { cls:=.type "dict",data:=.dict #[] }) (t':=s.toks) (fun _ _ q=>Heap.get?_push_of_some _ q) (Nat.le_refl _) (ZfR s.heap I.big)
 refine wpAny_Dict_walk (knd:=Zao X.prog X.w) hall hl h0 h15 (thn (h pins _ σ _ _ I1 (q _ hn)) fun ws s2 ⟨ps,H2,I2,rel,e,kvs,ep,lk,q2⟩=>?_)
 subst ep
 obtain⟨rs,c,rk⟩:=Zdg (P:=X.prog) (w:=X.w) rel
 obtain⟨z,hd,vs0,r0,dd⟩:=Zgs I2.hok e
 cases r0
 refine⟨rs,c,dd,fun h' dd' hs=>⟨.ref s.heap.objs.size,_,?_,rfl,q2⟩⟩
 have hz:(ZaD [] kvs).length≤sizeLine:=by
  have h1:=ZaL kvs []
  rw[List.length_nil]at h1
  rw[sizeLine_eq];omega
 have he:∃q,h'.get? s.heap.objs.size=some q:=let ⟨q,_,_,hq,_⟩:=dd';⟨q,hq⟩
 exact ZcK I2 (by rw[e];exact True.intro) hs he (Zes hz hd (rk.merge .nil) dd')
structure M1 (X:Cx)(o:Expr)(m:Str)(apos:Pos)(e:Expr)(cpos:Pos):Prop where
 base:attributeBase o m X.env (eval o X.env)=eval o X.env
 few:((backTo cpos (starEach [e] X.env)).all (fun x=>!x.1)&&(backToKw cpos (keywordEach [] X.env)).all (fun x=>x.1.isSome)
  && decide (([e]:List Expr).length+([]:List Keyword).length+(if ([]:List Keyword).isEmpty then 0 else 1)<30))=true
 line:(apos.endLine == cpos.line)=true
 trees:backTo cpos (starEach [e] X.env)=[(false,eval e X.env)]
structure M2 (X:Cx)(o:Expr)(m:Str)(apos:Pos)(e f:Expr)(cpos:Pos):Prop where
 base:attributeBase o m X.env (eval o X.env)=eval o X.env
 few:((backTo cpos (starEach [e,f] X.env)).all (fun x=>!x.1)&&(backToKw cpos (keywordEach [] X.env)).all (fun x=>x.1.isSome)
  && decide (([e,f]:List Expr).length+([]:List Keyword).length+(if ([]:List Keyword).isEmpty then 0 else 1)<30))=true
 line:(apos.endLine == cpos.line)=true
 trees:backTo cpos (starEach [e,f] X.env)=[(false,eval e X.env),(false,eval f X.env)]
def IsD (H:Hp)(a:Addr):Prop:=(∃kvs,Rd H a (.dK kvs))∨∃kvs,Rd H a (.dT kvs)
theorem Zhp {X:Cx}{pins:List (Addr×Obj)}{σ:St}{H:Hp}{s:Shared}{a:Addr}(I:Inv X pins σ H s)(d:IsD H a):
  s.TypeIs (.ref a) "dict"∧(∀b,Value.ref a=.ref b→∃ob,s.heap.get? b=some ob∧ob.dict=none)∧(a == sysModules)=false:=by
 rcases d with⟨kvs,e⟩|⟨kvs,e⟩
 ·obtain⟨_,hd,vs,_,dd⟩:=ZdI I.hok e
  refine⟨dd.typeIs,fun b q=>?_,hd⟩
  cases q
  obtain⟨ob,_,_,h1,h2,_⟩:=dd
  exact⟨ob,h1,h2.2.1⟩
 ·obtain⟨_,hd,xs,_,dd⟩:=Zeq I.hok e
  refine⟨dd.typeIs,fun b q=>?_,hd⟩
  cases q
  obtain⟨ob,_,_,h1,h2,_⟩:=dd
  exact⟨ob,h1,h2.2.1⟩
section
variable {X:Cx}{pins:List (Addr×Obj)}{σ:St}{H:Hp}{s:Shared}{a:Addr}{y d:V}{u r:Value}{o:Option V}{A:Around}{E:Value→Shared→Prop}
theorem ZlI {Q:Value→Shared→Prop}(hu:A.units+1<cLine)(I:Inv X pins σ H s)(g:DGet H a y o)(ry:RelV y u)(rd:RelV d r)(h:∀w' s',Inv X pins σ H s'→RelV (o.getD d) w'→Q w' s'):
  wpAny (model X.prog X.w) A (call (.builtin "dict.get") [.ref a,u,r]) Q E s:=by
 rcases g with⟨kvs,k,e,ey,l⟩|⟨kvs,k,b,e,ey,eb,l⟩
 ·subst ey
  obtain⟨z,hd,vs,rel,dd⟩:=ZdI I.hok e
  refine call_meetsIn PySem.F.slot_dict_get dd.typeIs PySem.F.entry_dict_get (PySem.F.args_dict_get_3 _ _ _) (meets_dict_get_default (Zao X.prog X.w) a (ZcW ry) hd r) ⟨_,dd.mapOf,h _ _ (I.tok _) ?_⟩
  rw[l]
  exact(rel.val k).getD rd
 ·subst ey
  cases (show u=Value.ref b from ry)
  obtain⟨z,hd,xs,rel,dd⟩:=Zeq I.hok e
  refine call_meetsIn PySem.F.slot_dict_get dd.typeIs PySem.F.entry_dict_get (PySem.F.args_dict_get_3 _ _ _) (meetsH_dict_get_default (tupleKind (Zao X.prog X.w)) a b hd r) ⟨tupleKind_room_in1 hu,k,xs,ZcE I.hok eb,dd,h _ _ (I.tok _) ?_⟩
  rw[l]
  exact(rel.val k).getD rd
end
def ZkB (td ty:TE):TE:=fun σ H Q=>td σ H fun x H1=>∃a,x=.ref a∧IsD H1 a∧ty σ H1 fun y H2=>∃o,DGet H2 a y o∧Q (o.getD .non) H2
def ZiH (td ty tx:TE):TE:=fun σ H Q=>td σ H fun x H1=>∃a,x=.ref a∧IsD H1 a∧ty σ H1 fun y H2=>tx σ H2 fun z H3=>∃o,DGet H3 a y o∧Q (o.getD z) H3
section
variable {X:Cx}{o e f:Expr}{apos cpos:Pos}{td ty tx:TE}
theorem Zh4 (hu:X.A.units+1<cLine) (ho:PE X o td) (he:PE X e ty) (hf:PE X f tx) (m:M2 X o "get" apos e f cpos):PE X (.Call (.Attribute o "get" apos) [e,f] [] cpos) (ZiH td ty tx):=by
 intro pins s σ H Q I h
 refine wpAny_Call_method m.base m.few m.line PySem.F.plainAttrs_dict PySem.F.slot_dict_get PySem.F.type_dict_get (thn (ho pins s σ H _ I h) fun u s1 ⟨x,H1,I1,rx,a,ex,d,q1⟩=>?_)
 subst ex
 obtain rfl:u=Value.ref a:=rx
 obtain⟨t1,t2,_⟩:=Zhp I1 d
 refine⟨t1,t2,?_⟩
 rw[m.trees]
 refine Calls.callWith_builtin rfl (Calls.evalArgs_plain (Calls.spliced_cons (thn (he pins s1 σ H1 _ I1 q1) fun iv s2 ⟨y,H2,I2,ry,q2⟩=>
  Calls.spliced_cons (thn (hf pins s2 σ H2 _ I2 q2) fun fv s3 ⟨z,H3,I3,rz,ov,g,q3⟩=>Calls.spliced_nil ?_))))
 exact ZlI hu I3 g ry rz fun w' s4 I4 rw'=>⟨_,H3,I4,rw',q3⟩
end
section
variable {X:Cx}{pins:List (Addr×Obj)}{σ:St}{H:Hp}{s:Shared}{a:Addr}{kvs:List (Key×V)}{A:Around}{E:Value→Shared→Prop}
end
section
variable {X:Cx}{pins:List (Addr×Obj)}{σ:St}{H:Hp}{s:Shared}{a:Addr}{y:V}{u:Value}{A:Around}{E:Value→Shared→Prop}
theorem d_KX {Q:Value→Shared→Prop}(hu:A.units+1<cLine)(hh:A.handled=none)(I:Inv X pins σ H s)(g:DGet H a y none)(ry:RelV y u)
  (h:∀h' e t',Heap.NewExc s.heap h' e "KeyError"→E (.ref e) { s with heap:=h',toks:=t' }):wpAny (model X.prog X.w) A (getItem (.ref a) u) Q E s:=by
 rcases g with⟨kvs,k,e,ey,l⟩|⟨kvs,k,b,e,ey,eb,l⟩
 ·subst ey
  obtain⟨z,hd,vs,rel,dd⟩:=ZdI I.hok e
  have hn:valueAt vs k=none:=RelO.none_of (by rw[l];exact rel.val k)
  exact wpAny_getItem_missing_of (ZcW ry) hd hh dd.mapOf hn fun h' ex ne=>h h' ex _ ne
 ·subst ey
  cases (show u=Value.ref b from ry)
  obtain⟨z,hd,xs,rel,dd⟩:=Zeq I.hok e
  have hn:(atKey xs k).map (·.2)=none:=RelO.none_of (by rw[l];exact rel.val k)
  exact wpAny_getItem_missing_heap (tupleKind_room_in1 hu) (ZcE I.hok eb) hd hh dd (Option.map_eq_none_iff.mp hn) fun h' ex ne=>h h' ex _ ne
end
section
variable {X:Cx}
theorem ZhF:ZbC X (.builtin "len") (fun xs H Q=>∃a kvs,xs=[V.ref a]∧H a=some (.dK kvs)∧Q (.int kvs.length) H):=by
 intro pins s σ H xs us Q I r h
 obtain⟨a,kvs,rfl,ha,q⟩:=h
 obtain⟨u,rfl,ru⟩:=vals1 r
 cases ru
 exact Zns I (.inl ha) fun t s' I'=>⟨.int kvs.length,H,I',⟨t,rfl⟩,q⟩
end
section
variable {κ:Type}[DecidableEq κ]
theorem ZhQ {kvs:List (κ×V)}{k:κ}(h:valV kvs k=none):¬k∈kvs.map (·.1):=by
 intro m
 obtain⟨p,hp,e⟩:=List.mem_map.mp m
 have q:(kvs.any fun kv=>decide (kv.1=k))=true:=List.any_eq_true.mpr ⟨p,hp,decide_eq_true e⟩
 rw[Zbm,h]at q
 exact absurd q (by simp)
theorem ZgB {kvs:List (κ×V)}{k:κ}{v:V}(h:valV kvs k=some v):k∈kvs.map (·.1):=by
 have q:(kvs.any fun kv=>decide (kv.1=k))=true:=by
  rw[Zbm,h]
  all_goals rfl
 obtain⟨p,hp,e⟩:=List.any_eq_true.mp q
 exact List.mem_map.mpr ⟨p,hp,of_decide_eq_true e⟩
theorem Zg8:∀ {l:List κ} {k:κ},l.Nodup→¬k∈l→(l++[k]).Nodup
 | [],k,_,_=>by simp
 | a::r,k,h,hk=>by
  obtain⟨h1,h2⟩:=List.nodup_cons.mp h
  show (a::(r++[k])).Nodup
  refine List.nodup_cons.mpr ⟨fun m=>?_,Zg8 h2 fun m=>hk (List.mem_cons.mpr (Or.inr m))⟩
  rcases List.mem_append.mp m with q | q
  ·exact h1 q
  ·exact hk (List.mem_cons.mpr (Or.inl (List.mem_singleton.mp q).symm))
theorem ZjF {kvs:List (κ×V)}{k:κ}(v:V)(hn:(kvs.map (·.1)).Nodup)(h:valV kvs k=none):((putK kvs k v).map (·.1)).Nodup:=by
 rw[Zdo v h,List.map_append]
 exact Zg8 hn (ZhQ h)
end
def clOf (cells:List (Str×Addr)):List (Str×NameKind)→List (Str×Addr)→List (Str×Addr)
 | [],acc=>acc
 | (n,k)::r,acc=>if k == NameKind.free then clOf cells r ((n,(cells.lookup n).getD 0)::acc) else clOf cells r acc
theorem ZdK {cells:List (Str×Addr)}:∀(names:List (Str×NameKind)) (acc:List (Str×Addr)) (p:Str×Addr),p∈acc→p∈clOf cells names acc
 | [],_,_,h=>h
 | (n,k)::r,acc,p,h=>by
  unfold clOf
  split
  ·exact ZdK r _ p (List.mem_cons_of_mem _ h)
  ·exact ZdK r acc p h
theorem ZdL {cells:List (Str×Addr)}{x:Str}:∀(names:List (Str×NameKind)) (acc:List (Str×Addr)),(x,NameKind.free)∈names→(x,(cells.lookup x).getD 0)∈clOf cells names acc
 | [],_,h=>by cases h
 | (n,k)::r,acc,h=>by
  unfold clOf
  rcases List.mem_cons.mp h with e | h
  ·have e1:x=n:=congrArg Prod.fst e
   have e2:NameKind.free=k:=congrArg Prod.snd e
   subst e1 e2
   exact ZdK r _ _ List.mem_cons_self
  ·split
   ·exact ZdL r _ h
   ·exact ZdL r _ h
theorem Zfd {cells:List (Str×Addr)}:∀(names:List (Str×NameKind)) (acc:List (Str×Addr)) (p:Str×Addr),p∈clOf cells names acc→p∈acc∨((p.1,NameKind.free)∈names∧p.2=(cells.lookup p.1).getD 0)
 | [],_,_,h=>.inl h
 | (n,k)::r,acc,p,h=>by
  unfold clOf at h
  split at h
  ·rename_i hk
   have hk':k=NameKind.free:=by simpa using hk
   rcases Zfd r _ p h with q | ⟨q,e⟩
   ·rcases List.mem_cons.mp q with q | q
    ·subst q;subst hk';exact .inr ⟨List.mem_cons_self,rfl⟩
    ·exact .inl q
   ·exact .inr ⟨List.mem_cons_of_mem _ q,e⟩
  ·rcases Zfd r _ p h with q | ⟨q,e⟩
   ·exact .inl q
   ·exact .inr ⟨List.mem_cons_of_mem _ q,e⟩
theorem Zdf {sc:Scope}{env:Env}(h:∀y∈sc.names,y.2=NameKind.free→∃c,env.cells.lookup y.1=some c):closureFor sc env=pure (clOf env.cells sc.names []):=by
 have all:∀(names:List (Str×NameKind)) (acc:List (Str×Addr)),(∀y∈names,y.2=NameKind.free→∃c,env.cells.lookup y.1=some c) →
   (forIn names acc fun (y:Str×NameKind) (cs:List (Str×Addr))=>(if (y.2 == NameKind.free)=true then (do let a ←cellOf env y.1;pure (ForInStep.yield ((y.1,a)::cs))) else pure (ForInStep.yield cs):Sem (ForInStep (List (Str×Addr)))))=pure (clOf env.cells names acc):=by
  intro names
  induction names with
  | nil=>intro acc _;rfl
  | cons y r ih=>
   intro acc hy
   obtain⟨n,k⟩:=y
   rw[List.forIn_cons]
   unfold clOf
   by_cases hk:k=NameKind.free
   ·subst hk
    obtain⟨c,hc⟩:=hy (n,NameKind.free) List.mem_cons_self rfl
    have hc':env.cells.lookup n=some c:=hc
    simp only[beq_self_eq_true,if_true,cellOf,hc',pure_bind,Option.getD_some]
    exact ih _ fun z hz=>hy z (List.mem_cons_of_mem _ hz)
   ·have hb:(k == NameKind.free)=false:=by simpa using hk
    simp only[hb,Bool.false_eq_true,if_false,pure_bind]
    exact ih _ fun z hz=>hy z (List.mem_cons_of_mem _ hz)
 have q:=all sc.names [] h
 unfold closureFor
 show (forIn sc.names [] fun (y:Str×NameKind) (cs:List (Str×Addr))=>_) >>= _=_
 first
  | (rw[q];rfl)
  | (refine Eq.trans (congrArg (fun t=>t >>= fun cs=>pure cs) q) ?_;rfl)
structure CmpScope (X:Cx)(sc:Scope):Prop where
 kind:sc.kind=.function
 nocell:∀y∈sc.names,y.2≠NameKind.cell
 loc:∀y∈sc.names,y.2=NameKind.local→sc.names.lookup y.1=some .local
 clos:∀y∈sc.names,y.2=NameKind.free→(X.env.kindOf y.1=some .cell∨X.env.kindOf y.1=some .free)
def pick (ix:List (Option Nat))(σ:St):St:=ix.map fun o=>o.bind fun i=>(σ[i]?).join
def Zhs (N M:List Str)(sc:Scope)(ix:List (Option Nat)):Bool:=
 ix.length == N.length&&(N.zip ix).all fun p=>match p.2 with | none=>true | some i=>decide (M[i]?=some p.1)&&decide (sc.names.lookup p.1=some NameKind.free)
def bx (X:Cx)(sc:Scope)(N:List Str)(fp:List Addr)(s₀:Shared)(H:Hp)(pn:List (Addr×Obj)):Cx:=
 { X with N:=N,s₀:=s₀,H₀:=H,env:=compEnvC sc (clOf X.env.cells sc.names []) s₀.heap.objs.size X.env,outer:=X.stack,stack:=X.stack,ex:=fp,fn:=fun _=>false,pn:=pn,xe:=fun _ _=>False }
theorem Zcq {sc:Scope}{env:Env}{x:Str}{k:NameKind}(h:(relabel sc env).names.lookup x=some k):(x,k)∈sc.names∨(k=.cell∧(x,NameKind.free)∈sc.names):=by
 have m:=PySem.mem_of_lookup h
 unfold relabel at m
 obtain⟨⟨n,k'⟩,hm,e⟩:=List.mem_map.mp m
 dsimp only at e
 split at e
 ·rename_i hc
  have e1:n=x:=congrArg Prod.fst e
  have e2:NameKind.cell=k:=congrArg Prod.snd e
  have e3:k'=NameKind.free:=by
   rw[Bool.and_eq_true,Bool.and_eq_true]at hc
   simpa using hc.1.1
  subst e1 e2 e3
  exact .inr ⟨rfl,hm⟩
 ·have e1:n=x:=congrArg Prod.fst e
  have e2:k'=k:=congrArg Prod.snd e
  subst e1 e2
  exact .inl hm
theorem Zca {env:Env}{x:Str}:∀ {names:List (Str×NameKind)},names.lookup x=some NameKind.free →
  (names.map fun (n,k)=>if (k == NameKind.free&&env.scope.kind == .function&&env.kindOf n == some .cell) then (n,NameKind.cell) else (n,k)).lookup x=some .cell ∨
  (names.map fun (n,k)=>if (k == NameKind.free&&env.scope.kind == .function&&env.kindOf n == some .cell) then (n,NameKind.cell) else (n,k)).lookup x=some .free
 | [],h=>by simp at h
 | (n,k)::r,h=>by
  by_cases hx:x=n
  ·subst hx
   simp only[List.lookup_cons,beq_self_eq_true]at h
   cases h
   simp only[List.map_cons]
   split
   ·left;simp[List.lookup_cons]
   ·right;simp[List.lookup_cons]
  ·have hb:(x == n)=false:=by simpa using hx
   simp only[List.lookup_cons,hb]at h
   have ih:=Zca (env:=env) h
   simp only[List.map_cons]
   split
   ·simpa only[List.lookup_cons,hb] using ih
   ·simpa only[List.lookup_cons,hb] using ih
theorem ZbU {α:Type}{x:Str}{c:α}:∀ {l:List (Str×α)},(x,c)∈l→∃c',l.lookup x=some c'
 | [],h=>by cases h
 | (n,d)::r,h=>by
  by_cases hx:x=n
  ·subst hx;exact⟨d,by simp[List.lookup_cons]⟩
  ·have hb:(x == n)=false:=by simpa using hx
   rcases List.mem_cons.mp h with e | h
   ·exact absurd (congrArg Prod.fst e) hx
   ·obtain⟨c',e⟩:=ZbU h
    exact⟨c',by simpa only[List.lookup_cons,hb] using e⟩
section
variable {X:Cx}{pins:List (Addr×Obj)}{σ:St}{H:Hp}{s:Shared}{sc:Scope}{N:List Str}{fp:List Addr}{ix:List (Option Nat)}
theorem Inv.capt (I:Inv X pins σ H s)(S:CmpScope X sc):∀y∈sc.names,y.2=NameKind.free→∃c,X.env.cells.lookup y.1=some c:=fun y hy e=>I.ok.has y.1 (S.clos y hy e)
theorem Inv.clcell (I:Inv X pins σ H s)(S:CmpScope X sc){x:Str}{c:Addr}(h:(clOf X.env.cells sc.names []).lookup x=some c):X.env.cells.lookup x=some c:=by
 rcases Zfd _ _ _ (PySem.mem_of_lookup h) with q | ⟨q,e⟩
 ·cases q
 ·obtain⟨c',hc⟩:=I.capt S _ q rfl
  have hc':X.env.cells.lookup x=some c':=hc
  have e':c=(X.env.cells.lookup x).getD 0:=e
  rw[hc',Option.getD_some]at e'
  rw[e'];exact hc'
theorem Inv.clhas (I:Inv X pins σ H s)(S:CmpScope X sc){x:Str}(h:(x,NameKind.free)∈sc.names):∃c,(clOf X.env.cells sc.names []).lookup x=some c∧X.env.cells.lookup x=some c:=by
 obtain⟨c,e⟩:=ZbU (ZdL (cells:=X.env.cells) sc.names [] h)
 exact⟨c,e,I.clcell S e⟩
theorem Inv.block {h1:Heap}{tk:Nat}{m:Str→Option Value}(I:Inv X pins σ H s)(S:CmpScope X sc)(hix:Zhs N X.N sc ix=true)(hf:∀b∈fp,FpOk X pins H b∧b<s.heap.objs.size)
  (hk:∀b o,s.heap.get? b=some o→h1.get? b=some o) (hn:h1.Ns s.heap.objs.size m):
  Inv (bx X sc N fp s H (X.pn++pins)) [] (pick ix σ) H { s with heap:=h1,toks:=tk }:=by
 have hC:∀b o,s.heap.get? b=some o→b≠s.heap.objs.size:=fun b o e=>Nat.ne_of_lt (Heap.lt_size e)
 have hcell:∀x c,(clOf X.env.cells sc.names []).lookup x=some c→∃v,s.heap.IsCell c v:=fun x c e=>I.cell x c (I.clcell S e)
 have stk:∀b,b≠X.env.locals→b∉X.fs→b∉frs X.stack:=fun b h1 h2 hb=>by
  rcases List.mem_cons.mp (I.stkSub b hb) with z | z
  ·exact h1 z
  ·exact h2 z
 rw[Zhs,Bool.and_eq_true]at hix
 refine⟨⟨I.ok.mod,S.kind,I.ok.glob,I.ok.blt,Nat.le_refl _,?_,?_,?_,I.ok.hd,I.ok.frames,.inl rfl,?_,I.bs,Nat.le_trans I.ok.bsz I.sz,?_,?_,I.stack,I.stkFree⟩,
  rfl,I.bare,Un.kept hk,⟨m,hn,?_⟩,?_,I.fresh,?_,?_,I.hok.kept hk,?_⟩
 ·intro x y c e1 e2
  exact I.ok.inj x y c (I.clcell S e1) (I.clcell S e2)
 ·intro x hx
  have hx:(relabel sc X.env).names.lookup x=some .cell∨(relabel sc X.env).names.lookup x=some .free:=hx
  have hm:(x,NameKind.free)∈sc.names:=by
   rcases hx with hx | hx
   ·rcases Zcq hx with q | ⟨_,q⟩
    ·exact absurd rfl (S.nocell _ q)
    ·exact q
   ·rcases Zcq hx with q | ⟨q,_⟩
    ·exact q
    ·cases q
  obtain⟨c,e,_⟩:=I.clhas S hm
  exact⟨c,e⟩
 ·intro x c z
  cases z
 ·intro b hb
  obtain⟨f,hlt⟩:=hf b hb
  refine⟨Nat.ne_of_lt hlt,fun x c e=>f.2.2.2.2.1 x c (I.clcell S e)⟩
 ·intro b o e hb
  obtain⟨⟨_,_,_,f3,_⟩,_⟩:=hf b hb
  rcases f3 with z | z
  ·exact I.ok.noex b o e z
  ·exact absurd (Heap.lt_size e) (Nat.not_lt.mpr (Nat.le_trans I.ok.bsz z))
 ·intro b hb
  obtain⟨⟨_,f1,f2,_⟩,_⟩:=hf b hb
  exact stk b f1 f2
 ·intro i x v e1 e2 e3
  have e1:N[i]?=some x:=e1
  have hi:∃j,ix[i]?=some (some j)∧σ[j]?=some (some v):=by
   unfold pick at e2
   rw[List.getElem?_map]at e2
   cases q:ix[i]? with
   | none=>rw[q]at e2;cases e2
   | some o=>
    rw[q]at e2
    cases o with
    | none=>cases e2
    | some j=>
     refine⟨j,rfl,?_⟩
     have e4:(σ[j]?).join=some v:=Option.some.inj e2
     cases q2:σ[j]? with
     | none=>rw[q2]at e4;cases e4
     | some w=>rw[q2]at e4;cases w with
      | none=>cases e4
      | some w=>rw[←e4];rfl
  obtain⟨j,hj,hσ⟩:=hi
  have hz:(x,some j)∈N.zip ix:=by
   have q:(N.zip ix)[i]?=some (x,some j):=by rw[List.getElem?_zip_eq_some];exact⟨e1,hj⟩
   exact List.mem_of_getElem? q
  have hp:=List.all_eq_true.mp hix.2 _ hz
  dsimp only at hp
  rw[Bool.and_eq_true]at hp
  have hM:X.N[j]?=some x:=of_decide_eq_true hp.1
  have hfr:sc.names.lookup x=some NameKind.free:=of_decide_eq_true hp.2
  have hmem:=PySem.mem_of_lookup hfr
  obtain⟨mo,hno,hlo⟩:=I.loc
  have hvis:Vis X.env.scope x:=by
   rcases S.clos _ hmem rfl with z | z
   ·exact .inr (.inl z)
   ·exact .inr (.inr z)
  obtain⟨u,ru,l⟩:=hlo j x v hM hσ hvis
  refine⟨u,ru,.inr ⟨?_,?_⟩⟩
  ·exact Zca (env:=X.env) hfr
  ·obtain⟨c,e,e'⟩:=I.clhas S hmem
   refine⟨c,e,?_⟩
   rcases l with⟨k,_⟩|⟨_,c',ec,z⟩
   ·rcases S.clos _ hmem rfl with q | q
    ·rw[k]at q;cases q
    ·rw[k]at q;cases q
   ·rw[e']at ec
    cases ec
    obtain⟨o,ho,hd⟩:=z
    exact⟨o,hk _ _ ho,hd⟩
 ·intro x c e
  obtain⟨v,o,ho,hd⟩:=hcell x c e
  exact⟨v,o,hk _ _ ho,hd⟩
 ·intro x c e
  exact I.freeC x c (I.clcell S e)
 ·intro p hp
  have hp:p∈X.pn++pins:=by
   rcases List.mem_append.mp hp with z | z
   ·exact z
   ·cases z
  obtain⟨e,n,ne,nf,d⟩:=I.pin p hp
  exact⟨hk _ _ e,n,hC _ _ e,stk p.1 ne nf,d⟩
 ·show (pick ix σ).length=N.length
  unfold pick
  rw[List.length_map]
  simpa using hix.1
theorem Inv.unblock {τ:St}{H':Hp}{s':Shared}{h':Heap}(I:Inv X pins σ H s)(hf:∀b∈fp,FpOk X pins H b)(J:Inv (bx X sc N fp s H (X.pn++pins)) [] τ H' s')(hs:Heap.SameBut s.heap.objs.size s'.heap h'):
  Inv X pins σ H' { s' with heap:=h' }:=by
 have nC:∀b o,s.heap.get? b=some o→b≠s.heap.objs.size:=fun b o e=>Nat.ne_of_lt (Heap.lt_size e)
 have hfr:H' s.heap.objs.size=none:=J.free
 have u:Un (frs X.stack) fp H H' s.heap s'.heap:=J.base
 have ok:HOk X.prog X.w H' h':=fun b ob e=>by
  refine(J.hok b ob e).stay (fun c w' hc q=>(hs.2 c ?_).trans q) (fun _ q=>q) fun _ _ q=>q
  rintro rfl
  rcases hc with rfl | hc
  ·rw[hfr]at e;cases e
  ·rw[hfr]at hc;cases hc
 refine I.call' (ch:=fp) J.os ⟨fun b o e n h1 h2=>(hs.2 b (nC b o e)).trans (u.keep b o e n h1 h2),fun b o e n h1 h2=>?_,u.free,fun b o e h2=>?_,u.tups,u.frzs,u.tbls⟩ ok J.bare fun b hb=>?_
 ·obtain⟨sl,q⟩:=u.slot b o e n h1 h2
  exact⟨sl,(hs.2 b (nC b o e)).trans q⟩
 ·obtain⟨o',q⟩:=u.there b o e h2
  exact⟨o',(hs.2 b (nC b o e)).trans q⟩
 ·obtain⟨_,f1,_,f3,f4,f5⟩:=hf b hb
  exact⟨f3,f1,f4,f5⟩
end
def PIfs (X:Cx)(ifs:List Expr)(t:TT):Prop:=
 ∀(pins:List (Addr×Obj)) (s:Shared) (σ:St) (H:Hp) (Q:Bool→Hp→Prop),Inv X pins σ H s→t σ H Q →
  wpAny (model X.prog X.w) X.A (forIn ifs true fun c r=>if r=true then do let ok ←isTrue c X.env (eval c X.env);pure (ForInStep.yield ok) else pure (ForInStep.yield r)) (TP X pins σ Q) X.xe s
def tAll:TT:=fun _ H Q=>Q true H
theorem Zce {X:Cx}:PIfs X [] tAll:=fun _ _ _ H _ I h=>wpAny_tests_nil ⟨H,I,h⟩
theorem Zfx {X:Cx}{c:Expr}{t:TT}(h:PT X c t):PIfs X [c] t:=fun pins s σ H Q I q=>wpAny_tests_one (h pins s σ H Q I q)
theorem Zey {prog:Program}{w:World}{A:Around}{R:Result→Shared→Prop}{s:Shared}{el tgt iter:Expr}{ifs:List Expr}{scp:Scope}{pos:Pos}{it acc:Value}{env:Env}(W:Nat→Shared→Prop)
  (turn:∀n s,W n s→wpAny (model prog w) A (pyNext it) (fun r s₁=>match r with
   | none=>R (.ok .next) s₁
   | some v=>wpAny (model prog w) A (letOwnedTupleGo tgt it v) (fun _ s₁'=>wpAny (model prog w) A (assign tgt env v) (fun _ s₂=>
     wpAny (model prog w) A (forIn ifs true fun c r=>if r=true then do let ok ←isTrue c env (eval c env);pure (ForInStep.yield ok) else pure (ForInStep.yield r)) (fun ok s₃=>
      if ok=true then wpAny (model prog w) A (eval el env) (fun x s₄=>
       wpAny (model prog w) A (call (.builtin "list.append") [acc,x]) (fun _ s₅=>∃m,m<n∧W m s₅) (fun _ _=>False) s₄) (fun _ _=>False) s₃
      else ∃m,m<n∧W m s₃) (fun _ _=>False) s₂) (fun _ _=>False) s₁') (fun _ _=>False) s₁) (fun _ _=>False) s)
  (n:Nat) (h:W n s):codeAny (model prog w) A (.compLoop (.ListComp el [⟨tgt,iter,ifs,0⟩] scp pos) 0 it acc env) R s:=by
 refine codeAny_loop rfl W (fun n s hI=>?_) n h
 show wpAny _ A ((compTurn (.ListComp el [⟨tgt,iter,ifs,0⟩] scp pos) 0 it acc env).onRaise (fun x=>do noteFrame x env;theTreesLotGoes x)) _ _ s
 refine wpAny_noted ?_
 rw[compTurn_list]
 refine wpAny_bind (wpAny_standAt (wpAny_bind (wpAny_mono (turn n s hI) (fun r s1 q1=>?_) fun _ _ z=>z.elim)))
 cases r with
 | none=>exact wpAny_pure q1
 | some v=>
  refine wpAny_bind (wpAny_mono q1 (fun _ s1' q1'=>?_) fun _ _ z=>z.elim)
  refine wpAny_bind (wpAny_mono q1' (fun _ s2 q2=>wpAny_bind (wpAny_mono q2 (fun ok s3 q3=>?_) fun _ _ z=>z.elim)) fun _ _ z=>z.elim)
  cases ok with
  | false=>exact wpAny_pure ⟨rfl,q3⟩
  | true=>exact wpAny_bind (wpAny_bind (wpAny_mono q3 (fun x s4 q4=>wpAny_bind (wpAny_mono q4 (fun _ s5 q5=>wpAny_pure (wpAny_pure ⟨rfl,q5⟩)) fun _ _ z=>z.elim)) fun _ _ z=>z.elim))
def Zjh (ix:List (Option Nat))(wi:TI)(g:TG)(tt:TT)(te:TE):TE:=fun σ H Q=>wi σ H fun J H1=>∀acc,H1 acc=none→∃W:Nat→Nat→St→Hp→Prop,(∃m,W 0 m (pick ix σ) (upd H1 acc (.lst []))) ∧
 ∀i m τ H2,W i m τ H2→(J.stop i H2∧Q (.ref acc) H2)∨(J.go i H2∧∃Nx:St→Hp→Prop,(∀τ' H',Nx τ' H'→∃m',m'<m∧W (i+1) m' τ' H') ∧
  ∀x H3,J.yld i H2 x H3→g x τ H3 fun τ2 H4=>tt τ2 H4 fun b H5=>if b=true then te τ2 H5 fun y H6=>∃ys,H6 acc=some (.lst ys)∧ys.length<sizeLine∧Nx τ2 (upd H6 acc (.lst (ys++[y]))) else Nx τ2 H5)
section
variable {X:Cx}{sc:Scope}{N:List Str}{ix:List (Option Nat)}{elt tg iter:Expr}{ifs:List Expr}{pos:Pos}{wi:TI}{g:TG}{tt:TT}{te:TE}
theorem Zde {Q:VK}{pins:List (Addr×Obj)}{s:Shared}{σ:St}{H:Hp}{it:Addr}{fp:List Addr}{tn:Nat→Heap→Prop}{J:It}{RR:Value→Addr→Result→Shared→Prop}
  (hc:X.calm=true) (S:CmpScope X sc) (hix:Zhs N X.N sc ix=true)
  (hg:∀fp s₀ H₀ pn,PG (bx X sc N fp s₀ H₀ pn) tg g) (ht:∀fp s₀ H₀ pn,PIfs (bx X sc N fp s₀ H₀ pn) ifs tt) (he:∀fp s₀ H₀ pn,PE (bx X sc N fp s₀ H₀ pn) elt te)
  (I:Inv X pins σ H s) (T:Turn X.prog X.w X.K tg J fp it tn) (st:tn 0 s.heap) (hf:∀b∈fp,FpOk X pins H b)
  (q:∀acc,H acc=none→∃W:Nat→Nat→St→Hp→Prop,(∃m,W 0 m (pick ix σ) (upd H acc (.lst []))) ∧
   ∀i m τ H2,W i m τ H2→(J.stop i H2∧Q (.ref acc) H2)∨(J.go i H2∧∃Nx:St→Hp→Prop,(∀τ' H',Nx τ' H'→∃m',m'<m∧W (i+1) m' τ' H') ∧
    ∀x H3,J.yld i H2 x H3→g x τ H3 fun τ2 H4=>tt τ2 H4 fun b H5=>if b=true then te τ2 H5 fun y H6=>∃ys,H6 acc=some (.lst ys)∧ys.length<sizeLine∧Nx τ2 (upd H6 acc (.lst (ys++[y]))) else Nx τ2 H5))
  (hR:∀(acc:Addr) (s₃ s':Shared) (τ:St) (H':Hp),Inv X pins σ (upd H acc (.lst [])) s₃→(∀b∈fp,FpOk X pins (upd H acc (.lst [])) b)→Inv (bx X sc N fp s₃ (upd H acc (.lst [])) (X.pn++pins)) [] τ H' s'→Q (.ref acc) H' →
   RR (.ref acc) s₃.heap.objs.size (.ok .next) s'):
  wpAny (model X.prog X.w) X.A (newList []) (fun acc s₃=>wpAny (model X.prog X.w) X.A (newFunctionEnv sc X.env.globals (clOf X.env.cells sc.names []) [] X.env.qual none .none (some X.env)) (fun cenv s₄=>
   codeAny (model X.prog X.w) X.A (.compStart (.ListComp elt [⟨tg,iter,ifs,0⟩] sc pos) 0 (.ref it) acc { cenv with scope:=relabel sc X.env }) (RR acc cenv.locals) s₄) X.xe s₃) X.xe s:=by
 refine wpAny_newObj_type ?_
 have hfr:=I.fresh
 have I3:=I.lnew (its:=[]) (ys:=[]) (t':=s.toks) .nil (Nat.zero_le _)
 have fne:∀b∈fp,b<s.heap.objs.size:=fun b hb=>by
  obtain⟨o,e,_⟩:=T.obj 0 _ st b hb
  exact Heap.lt_size e
 have hf3:∀b∈fp,FpOk X pins (upd H s.heap.objs.size (.lst [])) b:=fun b hb=>by
  obtain⟨f0,f⟩:=hf b hb
  refine⟨?_,f⟩
  rw[Zab (Nat.ne_of_lt (fne b hb))]
  exact f0
 have q3:=q _ hfr
 have st3:tn 0 (s.heap.push { cls:=.type "list",data:=.seq ([]:List Value).toArray }):=T.keep _ _ _ st fun b _ o e=>Heap.get?_push_of_some _ e
 generalize e3:({ s with heap:=s.heap.push { cls:=.type "list",data:=.seq ([]:List Value).toArray },toks:=s.toks }:Shared)=s3 at I3
 have es3:s3.heap=s.heap.push { cls:=.type "list",data:=.seq ([]:List Value).toArray }:=by rw[←e3]
 rw[←es3]at st3
 have hf3':∀b∈fp,FpOk X pins (upd H s.heap.objs.size (.lst [])) b∧b<s3.heap.objs.size:=fun b hb=>⟨hf3 b hb,by rw[es3,Heap.size_push];exact Nat.lt_succ_of_lt (fne b hb)⟩
 refine wpAny_newFunctionEnv S.nocell (by intro y hy;cases hy) (fun h₁ hns₁ hsb₁=>?_) S.kind
 have hk:∀b o,s3.heap.get? b=some o→h₁.get? b=some o:=fun b o e=>hsb₁.extBut b o (Nat.ne_of_lt (Heap.lt_size e)) (Heap.get?_push_of_some _ e)
 have I4:=I3.block (N:=N) (ix:=ix) (tk:=s3.toks+([]:List (Str×Value)).length) S hix hf3' hk hns₁
 have st4:tn 0 h₁:=T.keep _ _ _ st3 fun b _ o e=>hk b o e
 obtain⟨W,⟨m0,w0⟩,turn⟩:=q3
 have statN:∀ {H':Hp},(∀b∈fp,H' b=none)→∀b∈fp,FpOk (bx X sc N fp s3 (upd H s.heap.objs.size (.lst [])) (X.pn++pins)) [] H' b:=fun {H'} hn b hb=>by
  obtain⟨⟨_,f1,f2,f3,f4,f5⟩,hlt⟩:=hf3' b hb
  refine⟨hn b hb,Nat.ne_of_lt hlt,fun z=>?_,.inl hb,fun x c e=>f4 x c (I3.clcell S e),fun p hp=>?_⟩
  ·rcases List.mem_cons.mp (I3.stkSub b z) with z | z
   ·exact f1 z
   ·exact f2 z
  ·refine f5 p ?_
   rcases List.mem_append.mp hp with z | z
   ·exact z
   ·cases z
 have loop:∀s4:Shared,s4={ s3 with heap:=h₁,toks:=s3.toks+([]:List (Str×Value)).length } →
   codeAny (model X.prog X.w) X.A (.compLoop (.ListComp elt [⟨tg,iter,ifs,0⟩] sc pos) 0 (.ref it) (.ref s.heap.objs.size) (compEnvC sc (clOf X.env.cells sc.names []) s3.heap.objs.size X.env)) (RR (.ref s.heap.objs.size) s3.heap.objs.size) s4:=by
  rintro s4 rfl
  refine Zey (fun n s'=>∃i τ H',Inv (bx X sc N fp s3 (upd H s.heap.objs.size (.lst [])) (X.pn++pins)) [] τ H' s'∧tn i s'.heap∧(∀b∈fp,H' b=none)∧W i n τ H') ?_ m0 ⟨0,_,_,I4,st4,fun b hb=>(hf3 b hb).1,w0⟩
  rintro n s5 ⟨i,τ,H5,I5,st5,fr5,w5⟩
  rcases turn i n τ H5 w5 with⟨stop,qn⟩|⟨go,Nx,hN,step⟩
  ·refine thn (T.done (bx X sc N fp s3 (upd H s.heap.objs.size (.lst [])) (X.pn++pins)) rfl rfl rfl hc i [] s5 τ H5 (fun _ _=>False) I5 (statN fr5) st5 stop) fun r s6 ⟨hr,I6⟩=>?_
   subst hr
   exact hR _ _ _ _ _ I3 hf3 I6 qn
  ·refine thn (T.item (bx X sc N fp s3 (upd H s.heap.objs.size (.lst [])) (X.pn++pins)) rfl rfl rfl hc i [] s5 τ H5 (fun _ _=>False) I5 (statN fr5) st5 go) fun r s6 ⟨u,hr,h6⟩=>?_
   subst hr
   refine thn h6 fun _ s7 ⟨x,H7,I7,r7,y7,st7,fr7⟩=>?_
   have I7':=I7.pinned (statN fr7) (T.obj _ _ st7)
   refine thn (hg _ _ _ _ _ s7 τ H7 x u _ I7' r7 (step x H7 y7)) fun _ s8 ⟨τ8,H8,I8,q8⟩=>?_
   have again:∀ {s9:Shared} {τ9:St} {H9:Hp},Inv (bx X sc N fp s3 (upd H s.heap.objs.size (.lst [])) (X.pn++pins)) ([]++Zd5 fp s7.heap) τ9 H9 s9→Nx τ9 H9 →
     ∃m,m<n∧∃i τ H',Inv (bx X sc N fp s3 (upd H s.heap.objs.size (.lst [])) (X.pn++pins)) [] τ H' s9∧tn i s9.heap∧(∀b∈fp,H' b=none)∧W i m τ H':=fun {s9 τ9 H9} I9 n9=>by
    obtain⟨m',hm,w9⟩:=hN τ9 H9 n9
    refine⟨m',hm,i+1,τ9,H9,I9.unpinned,T.keep _ _ _ st7 fun b hb o e=>(I9.pin (b,o) (List.mem_append_right _ (List.mem_append_right _ (Zbz hb e)))).1,fun b hb=>?_,w9⟩
    obtain⟨o,e,d⟩:=T.obj _ _ st7 b hb
    exact(I9.pin (b,o) (List.mem_append_right _ (List.mem_append_right _ (Zbz hb e)))).2.1
   refine thn (ht _ _ _ _ _ s8 τ8 H8 _ I8 q8) fun ok s9 ⟨H9,I9,q9⟩=>?_
   cases ok with
   | false=>exact again I9 q9
   | true=>
    rw[if_pos rfl]at q9 ⊢
    refine thn (he _ _ _ _ _ s9 τ8 H9 _ I9 q9) fun yv s10 ⟨y,H10,I10,r10,ys,ha,hz,q10⟩=>?_
    refine thn (Zbk _ s10 τ8 H10 (.ref s.heap.objs.size) [y] (.ref s.heap.objs.size) [yv] (fun v H'=>v=.non∧Nx τ8 H') I10 rfl (.cons r10 .nil) ⟨_,ys,y,rfl,rfl,ha,hz,rfl,q10⟩) fun _ s11 ⟨_,H11,I11,_,_,q11⟩=>?_
    exact again I11 q11
 exact codeAny_compStart_list (loop _ rfl) (T.self _ 0 _ _ _ st4 (loop _ rfl))
theorem Zdr (hc:X.calm=true)(S:CmpScope X sc)(hix:Zhs N X.N sc ix=true)(hi:PI X tg iter wi)
  (hg:∀fp s₀ H₀ pn,PG (bx X sc N fp s₀ H₀ pn) tg g) (ht:∀fp s₀ H₀ pn,PIfs (bx X sc N fp s₀ H₀ pn) ifs tt) (he:∀fp s₀ H₀ pn,PE (bx X sc N fp s₀ H₀ pn) elt te)
  (hs:∀x,foldedSetIterable iter X.env x=pure x:=by intro _;rfl):PE X (.ListComp elt [⟨tg,iter,ifs,0⟩] sc pos) (Zjh ix wi g tt te):=by
 intro pins s σ H Q I h
 rw[eval_ListComp]
 refine wpAny_comprehension_free (use:=none) rfl hs (Zdf (I.capt S)) S.kind S.loc (thn (hi pins s σ H _ I h) fun v s1 h1=>thn h1 fun itv s2 h2=>?_)
 obtain⟨it,fp,tn,J,H2,e,I2,T,st2,f2,q⟩:=h2
 subst e
 refine Zde (Q:=Q) (RR:=fun acc C=>compPost (model X.prog X.w) X.A X.xe none (EP X pins σ Q) acc C) hc S hix hg ht he I2 T st2 f2 q ?_
 intro acc s3 s' τ H' I3 hf3 J' qq
 obtain⟨m,hn,_⟩:=J'.loc
 exact⟨m,hn,fun h' hs'=>⟨.ref acc,H',I3.unblock hf3 J' hs',rfl,qq⟩⟩
theorem ZgV {i:Nat}{x:Str}{px spos:Pos}(hsw:swapsWith (.ListComp elt [⟨tg,iter,ifs,0⟩] sc pos) (some (.Name x px)) spos.line X.env=pure true)
  (hN:X.N.Nodup) (hi':X.N[i]?=some x) (hx:X.env.scope.names.lookup x=some .local) (hc:X.calm=true) (S:CmpScope X sc) (hix:Zhs N X.N sc ix=true) (hi:PI X tg iter wi)
  (hg:∀fp s₀ H₀ pn,PG (bx X sc N fp s₀ H₀ pn) tg g) (ht:∀fp s₀ H₀ pn,PIfs (bx X sc N fp s₀ H₀ pn) ifs tt) (he:∀fp s₀ H₀ pn,PE (bx X sc N fp s₀ H₀ pn) elt te)
  (hs:∀x,foldedSetIterable iter X.env x=pure x:=by intro _;rfl):PS X (.Assign [.Name x px] (.ListComp elt [⟨tg,iter,ifs,0⟩] sc pos) spos) (tAsg (Zjh ix wi g tt te) (ZbK i)):=by
 intro pins s σ H D I h
 rw[exec_Assign_Name_used _ _ _ _ hsw]
 refine wpAny_bind (wpAny_standAt (wpAny_bind ?_))
 show wpAny _ X.A (do let _ ←comprehension (.ListComp elt [⟨tg,iter,ifs,0⟩] sc pos) sc X.env _ (newList []) false (eval iter X.env) (some (assign (.Name x px) X.env))) _ _ s
 refine wpAny_bind (wpAny_mono (wpAny_comprehension_free (use:=some (assign (.Name x px) X.env)) (Q:=fun _ s'=>SP X pins D .next s') rfl hs (Zdf (I.capt S)) S.kind S.loc
  (thn (hi pins s σ H _ I h) fun v s1 h1=>thn h1 fun itv s2 h2=>?_)) (fun _ s' hq=>wpAny_pure (wpAny_pure hq)) fun _ _ z=>z)
 obtain⟨it,fp,tn,J,H2,e,I2,T,st2,f2,q⟩:=h2
 subst e
 refine Zde (Q:=fun y H1=>ZbK i y σ H1 D.nx) (RR:=fun acc C=>compPost (model X.prog X.w) X.A X.xe (some (assign (.Name x px) X.env)) (fun _ s'=>SP X pins D .next s') acc C) hc S hix hg ht he I2 T st2 f2 q ?_
 intro acc s3 s' τ H' I3 hf3 J' qq
 show wpAny _ X.A (assign (.Name x px) X.env (.ref acc)) _ _ _
 have I5:Inv X pins σ H' s':=I3.unblock hf3 J' (.refl ..)
 obtain⟨m,hn,_⟩:=J'.loc
 have hn:s'.heap.Ns s3.heap.objs.size m:=hn
 have hLC:s3.heap.objs.size≠X.env.locals:=Nat.ne_of_gt I3.lt
 refine wpAny_assign_Name (ZdX I5 hN hi' (.inl hx) (v:=.ref acc) rfl (fun s6 I6 ⟨a,sb,ha⟩=>?_) (.inr hx))
 have ea:a≠s3.heap.objs.size:=by
  rcases ha with ha | ha
  ·rw[ha];exact Ne.symm hLC
  ·obtain⟨v,o,ho,_⟩:=I3.cell x a ha
   exact Nat.ne_of_lt (Heap.lt_size ho)
 refine⟨m,hn.sameBut sb (Ne.symm ea),fun h' hs'=>?_⟩
 have hfr:H' s3.heap.objs.size=none:=J'.free
 refine⟨_,H',?_,qq⟩
 have ok:HOk X.prog X.w H' h':=fun b ob e=>by
  refine(I6.hok b ob e).stay (fun c w' hc q=>(hs'.2 c ?_).trans q) (fun _ q=>q) fun _ _ q=>q
  rintro rfl
  rcases hc with rfl | hc
  ·rw[hfr]at e;cases e
  ·rw[hfr]at hc;cases hc
 have l3:X.s₀.heap.objs.size≤s3.heap.objs.size:=I3.sz
 have cne:∀y c,X.env.cells.lookup y=some c→c≠s3.heap.objs.size:=fun y c e z=>by
  obtain⟨v,o,ho,_⟩:=I3.cell y c e
  exact absurd (Heap.lt_size ho) (by rw[z];exact Nat.lt_irrefl _)
 exact I6.turned (t':=s6.toks) (it:=s3.heap.objs.size) (fun b o hb e=>(hs'.2 b hb).trans e) hfr hLC (.inr l3) cne fun p hp z=>by
  have:=(I3.pin p hp).1
  exact absurd (Heap.lt_size this) (by rw[z];exact Nat.lt_irrefl _)
end
abbrev tx (l:List Nat):V:=.str ⟨l.toArray⟩
theorem Zc0 {a b:List Nat}:tx a=tx b↔a=b:=by
 constructor
 ·intro h
  have h1:(⟨a.toArray⟩:Str)=⟨b.toArray⟩:=V.str.inj h
  have h2:a.toArray=b.toArray:=congrArg Str.cps h1
  simpa using h2
 ·rintro rfl;rfl
theorem Zeu {a b:List Nat}:decide (tx a=tx b)=decide (a=b):=by
 by_cases h:a=b
 ·subst h;simp
 ·rw[decide_eq_false h,decide_eq_false fun z=>h (Zc0.mp z)]
theorem Zdj (l:List Nat):(⟨l.toArray⟩:Str).length=l.length:=by
 show l.toArray.size=l.length
 simp
def rT (C:List Nat→List Nat→Prop)(g:List Nat→List Nat→V):R2:=fun x y H Q=>∃a b,x=tx a∧y=tx b∧C a b∧Q (g a b) H
def cut {α:Type}(l:List α)(lo hi:Option Int):List α:=(l.drop (HT.sIx l.length 0 lo)).take (HT.sIx l.length l.length hi-HT.sIx l.length 0 lo)
theorem Zgt {α:Type}(l:List α)(lo hi:Option Int):(cut l lo hi).length≤l.length:=by
 unfold cut
 rw[List.length_take,List.length_drop]
 omega
theorem Zi3 {α:Type}(l:List α)(a b:Nat):cut l (some (a:Int)) (some (b:Int))=(l.drop a).take (b-a):=by
 unfold cut
 rw[HT.sIx_nat,HT.sIx_nat]
 apply List.ext_getElem?
 intro i
 simp only[List.getElem?_take,List.getElem?_drop]
 by_cases h1:i<min b l.length-min a l.length
 ·rw[if_pos h1,if_pos (by omega)]
  congr 1;omega
 ·rw[if_neg h1]
  by_cases h2:i<b-a
  ·rw[if_pos h2,List.getElem?_eq_none (by omega)]
  ·rw[if_neg h2]
theorem Zi2 {α:Type}(l:List α)(b:Nat):cut l none (some (b:Int))=l.take b:=by
 unfold cut
 rw[HT.sIx_nat,HT.sIx_none]
 apply List.ext_getElem?
 intro i
 simp only[List.getElem?_take,List.getElem?_drop,Nat.zero_add,Nat.sub_zero]
 by_cases h1:i<min b l.length
 ·rw[if_pos h1,if_pos (by omega)]
 ·rw[if_neg h1]
  by_cases h2:i<b
  ·rw[if_pos h2,List.getElem?_eq_none (by omega)]
  ·rw[if_neg h2]
theorem Zb1 {α:Type}(l:List α)(a:Nat):cut l (some (a:Int)) none=l.drop a:=by
 unfold cut
 rw[HT.sIx_nat,HT.sIx_none]
 apply List.ext_getElem?
 intro i
 simp only[List.getElem?_take,List.getElem?_drop]
 by_cases h1:i<l.length-min a l.length
 ·rw[if_pos h1];congr 1;omega
 ·rw[if_neg h1,List.getElem?_eq_none (by omega)]
def clp (n:Nat)(v:Option Int)(d:Int):Int:=match v with
 | none=>d
 | some i=>max 0 (min (if i<0 then i+(n:Int) else i) (n:Int))
theorem Zi4 (n d:Nat)(o:Option Int):clp n o (d:Int)=((HT.sIx n d o:Nat):Int):=by
 cases o with
 | none=>rw[HT.sIx_none];rfl
 | some v=>
  have:=HT.clip_eq v n d
  unfold clp
  dsimp only
  rw[←this]
  split<;>omega
theorem ZgI (lo hi:Option Int)(n:Nat):Builtin.Str.strSliceIndices lo hi 1 n=(List.range (HT.sIx n n hi-HT.sIx n 0 lo)).map fun k=>HT.sIx n 0 lo+k:=by
 have g:Builtin.Str.strSliceIndices lo hi 1 n=sliceRange (clp n lo ((0:Nat):Int)) (clp n hi (n:Int)) 1:=by
  cases lo<;>cases hi<;>rfl
 rw[g,Zi4,Zi4]
 generalize HT.sIx n 0 lo=a
 generalize HT.sIx n n hi=b
 unfold sliceRange
 have hc:(if (1:Int)>0 then (if (a:Int)<(b:Int) then ((b:Int)-a+1-1)/1 else 0) else (if (a:Int)>(b:Int) then ((a:Int)-b-1-1)/(-1) else 0)).toNat=b-a:=by
  simp only[show (1:Int)>0 by decide,if_true,Int.ediv_one]
  split<;>omega
 dsimp only
 rw[hc]
 apply List.map_congr_left
 intro k _
 omega
theorem ZhV (l:List Nat)(lo hi:Option Int):Txt.slice ⟨l.toArray⟩ lo hi=⟨(cut l lo hi).toArray⟩:=by
 have h1:=HT.sIx_le l.length 0 (Nat.zero_le _) lo
 have h2:=HT.sIx_le l.length l.length (Nat.le_refl _) hi
 unfold Txt.slice
 rw[Zdj,ZgI]
 have e:((List.range (HT.sIx l.length l.length hi-HT.sIx l.length 0 lo)).map fun k=>HT.sIx l.length 0 lo+k).filterMap (fun i=>l.toArray[i]?)=cut l lo hi:=by
  unfold cut
  generalize HT.sIx l.length 0 lo=a at *
  generalize HT.sIx l.length l.length hi=b at *
  have hab:∀n,a+n≤l.length→((List.range n).map fun k=>a+k).filterMap (fun i=>l.toArray[i]?)=(l.drop a).take n:=by
   intro n
   induction n with
   | zero=>intro _;simp
   | succ n ih=>
    intro hn
    rw[List.range_succ,List.map_append,List.filterMap_append,ih (by omega),List.take_add_one]
    have:(l.drop a)[n]?=l[a+n]?:=List.getElem?_drop
    simp[this,List.getElem?_eq_getElem (show a+n<l.length by omega)]
  by_cases hle:a≤b
  ·exact hab _ (by omega)
  ·have:b-a=0:=by omega
   rw[this];simp
 split
 ·rename_i hc
  simp only[beq_self_eq_true,Bool.true_and,List.length_map,List.length_range]at hc
  have hc':HT.sIx l.length l.length hi-HT.sIx l.length 0 lo=l.length:=by simpa using hc
  have:cut l lo hi=l:=by
   unfold cut
   have ha:HT.sIx l.length 0 lo=0:=by omega
   rw[hc',ha,List.drop_zero,List.take_of_length_le (Nat.le_refl _)]
  rw[this]
 ·show (⟨(List.filterMap (fun i=>l.toArray[i]?) _).toArray⟩:Str)=_
  rw[e]
section
variable {X:Cx}
theorem ZaW:OpR X (binaryOp .Add) (rT (fun a b=>a.length+b.length≤sizeLine) fun a b=>tx (a++b)):=by
 rintro pins s σ H x y v u Q I rx ry ⟨a,b,rfl,rfl,hz,q⟩
 refine Zgd pins s σ H _ _ v u Q I rx ry ⟨_,_,rfl,rfl,by rw[Zdj,Zdj];exact hz,?_⟩
 have e:((⟨a.toArray⟩:Str)++(⟨b.toArray⟩:Str))=⟨(a++b).toArray⟩:=by
  show (⟨a.toArray++b.toArray⟩:Str)=_
  simp
 rw[e];exact q
theorem Zga:OpR X (compareOp .In) (fun x y H Q=>∃c l,x=tx [c]∧y=tx l∧Q (.bl (decide (c∈l))) H):=by
 rintro pins s σ H x y v u Q I rx ry ⟨c,l,rfl,rfl,q⟩
 refine Zea pins s σ H _ _ v u Q I rx ry ⟨_,_,rfl,rfl,?_⟩
 have e:=StrLaws.found_one ⟨l.toArray⟩ c
 have e':(!(Builtin.Str.occurrences ⟨l.toArray⟩ ⟨[c].toArray⟩ 0 (⟨l.toArray⟩:Str).length 1).isEmpty)=decide (c∈l):=by
  rw[show ([c].toArray)=#[c] from rfl,e]
 rw[e'];exact q
theorem Zii:IxR X (fun x y H Q=>∃l i c,x=tx l∧y=.int i∧l.length≤sizeLine∧atI l i=some c∧Q (tx [c]) H):=by
 rintro value slice pins s σ H x y v u Q I rx ry ⟨l,i,c,rfl,rfl,hz,h,q⟩ hs
 exact Zlo value slice pins s σ H _ _ v u Q I rx ry ⟨_,i,c,rfl,rfl,by rw[Zdj];exact hz,h,q⟩ hs
theorem ZcR:SlR X (fun x lo hi H Q=>∃l,x=tx l∧l.length≤sizeLine∧Q (tx (cut l lo hi)) H):=by
 rintro pins s σ H x v vl vu lo hi sl Q I rx hs pl pu ⟨l,rfl,hz,q⟩
 obtain⟨t,rfl⟩:=rx
 refine⟨"str",_,F.slot_str_getitem.lookup,typeIs_str _ _ _,?_⟩
 have part:∀ {v:Value} {o:Option Int},IsPart v o→∃p:Option (Int×Tok),v=partValue p∧p.map (·.1)=o:=fun {v o} h=>by
  cases h with
  | none=>exact⟨none,rfl,rfl⟩
  | int i t=>exact⟨some (i,t),rfl,rfl⟩
 obtain⟨a,rfl,ea⟩:=part pl
 obtain⟨b,rfl,eb⟩:=part pu
 refine wpAny_getItem_str_slice (l:=a) (u:=b) (st:=none) hs rfl ?_
 have e:(if ((1:Int) == 1&&(Builtin.Str.strSliceIndices lo hi 1 (⟨l.toArray⟩:Str).length).length == (⟨l.toArray⟩:Str).length)=true then (⟨l.toArray⟩:Str) else ⟨((Builtin.Str.strSliceIndices lo hi 1 (⟨l.toArray⟩:Str).length).filterMap ((⟨l.toArray⟩:Str).cps[·]?)).toArray⟩)=⟨(cut l lo hi).toArray⟩:=ZhV l lo hi
 unfold sliceMade slicePicked
 rw[ea,eb]
 refine post_val_or_str ?_
 refine⟨?_,fun t' k=>?_⟩
 ·show (if ((1:Int) == 1&&(Builtin.Str.strSliceIndices lo hi 1 (⟨l.toArray⟩:Str).length).length == (⟨l.toArray⟩:Str).length)=true then (⟨l.toArray⟩:Str) else ⟨((Builtin.Str.strSliceIndices lo hi 1 (⟨l.toArray⟩:Str).length).filterMap ((⟨l.toArray⟩:Str).cps[·]?)).toArray⟩).length≤sizeLine
  rw[e,Zdj]
  exact Nat.le_trans (Zgt _ _ _) hz
 ·refine⟨tx (cut l lo hi),H,I.tok _,⟨t',?_⟩,q⟩
  exact congrArg (fun z=>Value.str z t') e
theorem Zc2:∀ {ls:List (List Nat)} {us:List Value},Vals (ls.map tx) us→StrsAre us (ls.map fun l=>(⟨l.toArray⟩:Str))
 | [],us,r=>by
  rw[List.map_nil]at r;cases r;exact .nil
 | l::ls,us,r=>by
  rw[List.map_cons]at r
  cases r with
  | cons r1 r2=>
   obtain⟨t,e⟩:=r1
   subst e
   exact .cons _ t (Zc2 r2)
end
def Its (l:List Nat):It:=⟨fun i _=>i<l.length,fun i H x H'=>H'=H∧∃c,l[i]?=some c∧x=tx [c],fun i _=>l.length≤i⟩
theorem ZgD {P:Program} {w:World} {K:PySem.W.Frag} {tg:Expr} (l:List Nat) (t:Tok) (it:Addr) (ty:String) (hty:ty="str_ascii_iterator"∨ty="str_iterator"):Turn P w K tg (Its l) [it] it (fun i h=>h.IsStrIter it ty ⟨l.toArray⟩ t i) where
 mem:=by simp
 obj:=fun i h st b hb=>by
  have e:b=it:=by simpa using hb
  subst e
  obtain⟨o,e,c,d⟩:=st
  exact⟨o,e,fun v z=>by rw[d]at z;cases z⟩
 keep:=fun i h h' st k=>by
  obtain⟨o,e,r⟩:=st
  exact⟨o,k it (by simp) o e,r⟩
 item:=by
  intro X hP hw hK hc i pins s σ H E I hf st hg
  subst hP hw hK
  obtain⟨f0,f1,f2,f3,f4,f5⟩:=hf it (by simp)
  have hg:i<l.length:=hg
  have hx:(⟨l.toArray⟩:Str).cps[i]?=some l[i]:=by
   show l.toArray[i]?=some l[i]
   simp[hg]
  have fin:∀(h':Heap) (tk:Tok),h'.IsStrIter it ty ⟨l.toArray⟩ t (i+1)→Heap.SameBut it s.heap h' →
    ∃u,some (Value.str ⟨#[l[i]]⟩ s.toks)=some u∧wpAny (model X.prog X.w) X.A (letOwnedTupleGo tg (.ref it) u) (fun _ s2=>∃x H',Inv X pins σ H' s2∧RelV x u∧(Its l).yld i H x H'∧s2.heap.IsStrIter it ty ⟨l.toArray⟩ t (i+1)∧∀b∈[it],H' b=none) E { s with heap:=h',toks:=tk }:=fun h' tk st' sb=>by
   have I1:Inv X pins σ H { s with heap:=h',toks:=tk }:=I.turned (t':=tk) (fun b o hb e=>(sb.2 b hb).trans e) f0 f1 f3 f4 f5
   obtain⟨o,e,c,d⟩:=id st'
   refine⟨_,rfl,Zhu (s:={ s with heap:=h',toks:=tk }) e c d ?_ ⟨tx [l[i]],H,I1,⟨_,rfl⟩,⟨rfl,l[i],by simp[hg],rfl⟩,st',fun b hb=>(hf b hb).1⟩⟩
   rcases hty with rfl | rfl<;>decide
  rcases hty with rfl | rfl
  ·exact wpAny_pyNext_ascii_item st hx fun h' st' sb=>fin h' _ st' sb
  ·exact wpAny_pyNext_wide_item st hx fun h' st' sb=>fin h' _ st' sb
 done:=by
  intro X hP hw hK hc i pins s σ H E I hf st hg
  subst hP hw hK
  obtain⟨f0,f1,f2,f3,f4,f5⟩:=hf it (by simp)
  have hg:l.length≤i:=hg
  have hx:(⟨l.toArray⟩:Str).cps[i]?=none:=by
   show l.toArray[i]?=none
   simp[hg]
  rcases hty with rfl | rfl
  ·exact wpAny_pyNext_ascii_end (I.ok.hd hc) st hx fun h' eb=>⟨rfl,I.turned (t':=s.toks) (fun b o hb e=>eb b o hb e) f0 f1 f3 f4 f5⟩
  ·exact wpAny_pyNext_wide_end (I.ok.hd hc) st hx fun h' eb=>⟨rfl,I.turned (t':=s.toks) (fun b o hb e=>eb b o hb e) f0 f1 f3 f4 f5⟩
 self:=by
  intro A i s Q E st h
  rcases hty with rfl | rfl
  ·exact wpAny_pyIter_striter_ascii st h
  ·exact wpAny_pyIter_striter_wide st h
section
variable {X:Cx}{tg:Expr}
def Zlv (tl:TE):TI:=fun σ H R=>tl σ H fun x H1=>∃l,x=tx l∧R (Its l) H1
theorem Zdq {l:Expr}{tl:TE}(hl:PE X l tl):PI X tg l (Zlv tl):=by
 intro pins s σ H R I h
 refine thn (hl pins s σ H _ I h) fun v s1 ⟨x,H1,I1,r1,q1⟩=>?_
 obtain⟨l,rfl,q⟩:=q1
 obtain⟨t,rfl⟩:=r1
 have fin:∀ty,(ty="str_ascii_iterator"∨ty="str_iterator")→PIE X pins σ tg R (.ref s1.heap.objs.size) { s1 with heap:=s1.heap.push { cls:=.type ty,data:=.fields #[.str ⟨l.toArray⟩ t,.int 0 0] } }:=fun ty hty=>by
  refine⟨s1.heap.objs.size,[s1.heap.objs.size],_,_,H1,rfl,I1.kept (t':=s1.toks) fun b o e=>Heap.get?_push_of_some _ e,ZgD l t _ ty hty,⟨_,Heap.get?_push_size _ rfl,rfl,rfl⟩,fun b hb=>?_,q⟩
  have e:b=s1.heap.objs.size:=by simpa using hb
  subst e
  exact I1.fpOk (Nat.le_refl _) (I1.hok.fresh (Nat.le_refl _))
 cases ha:(⟨l.toArray⟩:Str).cps.all (· < 128)
 ·exact wpAny_pyIter_wide ha (fin _ (.inr rfl))
 ·exact wpAny_pyIter_ascii ha (fin _ (.inl rfl))
end
theorem Ziq {l:List Nat}{g:TG}{tb:TS}{D:Ends}{σ:St}{H:Hp}(Pv:Nat→St→Hp→Prop)(h0:Pv 0 σ H)
  (hs:∀i c σ H,l[i]?=some c→Pv i σ H→g (tx [c]) σ H fun σ2 H2=>tb { D with nx:=Pv (i+1),ct:=Pv (i+1),bk:=D.nx } σ2 H2) (hd:∀σ H,Pv l.length σ H→D.nx σ H):
  ∃W:Nat→Nat→St→Hp→Prop,(∃m,W 0 m σ H)∧∀i m σ H,W i m σ H →
   ((Its l).stop i H∧D.nx σ H)∨((Its l).go i H∧∃N:St→Hp→Prop,(∀σ' H',N σ' H'→∃m',m'<m∧W (i+1) m' σ' H')∧∀x H',(Its l).yld i H x H'→g x σ H' fun σ2 H2=>tb { D with nx:=N,ct:=N,bk:=D.nx } σ2 H2):=by
 refine⟨fun i m σ H=>m=l.length-i∧i≤l.length∧Pv i σ H,⟨l.length,by simp,Nat.zero_le _,h0⟩,?_⟩
 rintro i m σ H ⟨rfl,hi,p⟩
 by_cases hlt:i<l.length
 ·refine .inr ⟨hlt,Pv (i+1),fun σ' H' p'=>⟨l.length-(i+1),by omega,rfl,hlt,p'⟩,fun x H' y=>?_⟩
  obtain⟨e,c,hc,y⟩:=y
  subst e y
  exact hs i c σ _ hc p
 ·have e:i=l.length:=by omega
  subst e
  exact .inl ⟨Nat.le_refl _,hd σ H p⟩
inductive DT where
 | f (v:V)
 | l (xs:List DT)
 | t (xs:List DT)
section
variable (K:PySem.W.Frag)(H:Hp)
mutual
def DatOk:DT→V→Prop
 | .f w,v=>v=w∧Zbg w=true
 | .l ds,v=>∃a vs,v=.ref a∧SqL K H a vs∧DatsOk ds vs
 | .t ds,v=>∃a vs,v=.ref a∧SqT K H a vs∧DatsOk ds vs
def DatsOk:List DT→List V→Prop
 | [],vs=>vs=[]
 | d::ds,vs=>∃v r,vs=v::r∧DatOk d v∧DatsOk ds r
end
end
mutual
def deq:DT→DT→Bool
 | .f v,.f w=>eqV v w
 | .l xs,.l ys=>deqs xs ys
 | .t xs,.t ys=>deqs xs ys
 | .f _,.l _=>false
 | .f _,.t _=>false
 | .l _,.f _=>false
 | .t _,.f _=>false
 | .l _,.t _=>false
 | .t _,.l _=>false
def deqs:List DT→List DT→Bool
 | [],[]=>true
 | x::xs,y::ys=>deq x y&&deqs xs ys
 | [],_::_=>false
 | _::_,[]=>false
end
mutual
def dep:DT→Nat
 | .f _=>0
 | .l xs=>deps xs+1
 | .t xs=>deps xs+1
def deps:List DT→Nat
 | []=>0
 | x::xs=>max (dep x) (deps xs)
end
theorem ZfQ {v:V}(h:Zbg v=true):eqV v v=true:=by
 cases v<;>first | rfl | (simp[eqV];done) | exact absurd (show false=true from h) Bool.false_ne_true
theorem DatsOk.length {K:PySem.W.Frag}{H:Hp}:∀ {ds:List DT} {vs:List V},DatsOk K H ds vs→vs.length=ds.length
 | [],vs,h=>by
  unfold DatsOk at h;subst h;rfl
 | d::ds,vs,h=>by
  unfold DatsOk at h
  obtain⟨v,r,rfl,_,hr⟩:=h
  rw[List.length_cons,List.length_cons,DatsOk.length hr]
def ZaE (xs ys:List DT)(j:Nat):Bool:=match xs[j]?,ys[j]? with
 | some x,some y=>deq x y
 | _,_=>false
theorem Ze8:∀xs ys:List DT,deqs xs ys=((List.range (min xs.length ys.length)).all (ZaE xs ys)&&xs.length == ys.length)
 | [],[]=>by simp[deqs]
 | [],_::_=>by simp[deqs]
 | _::_,[]=>by simp[deqs]
 | x::xs,y::ys=>by
  have e:min (x::xs).length (y::ys).length=min xs.length ys.length+1:=by simp only[List.length_cons];omega
  have e2:∀j,ZaE (x::xs) (y::ys) (j+1)=ZaE xs ys j:=fun j=>by simp[ZaE]
  have e3:ZaE (x::xs) (y::ys) 0=deq x y:=by simp[ZaE]
  rw[deqs,Ze8 xs ys,e,List.range_succ_eq_map,List.all_cons,e3,List.all_map]
  have e4:((fun j=>ZaE (x::xs) (y::ys) j) ∘ Nat.succ)=ZaE xs ys:=by funext j;exact e2 j
  have e5:(ZaE (x::xs) (y::ys) ∘ Nat.succ)=ZaE xs ys:=e4
  rw[e5,Bool.and_assoc]
  simp
mutual
theorem DatOk.uniq {K:PySem.W.Frag}{X:Cx}{pins:List (Addr×Obj)}{σ:St}{H:Hp}{s:Shared}(I:Inv X pins σ H s):∀(d e:DT) (v:V),DatOk X.K H d v→DatOk X.K H e v→deq d e=true
 | .f w,.f u,v,h1,h2=>by
  unfold DatOk at h1 h2
  obtain⟨rfl,hf⟩:=h1
  obtain⟨e,_⟩:=h2
  subst e
  unfold deq
  exact ZfQ hf
 | .f w,.l ys,v,h1,h2=>by
  unfold DatOk at h1 h2
  obtain⟨rfl,hf⟩:=h1
  obtain⟨a,vs,rfl,_⟩:=h2
  exact absurd (show false=true from hf) Bool.false_ne_true
 | .f w,.t ys,v,h1,h2=>by
  unfold DatOk at h1 h2
  obtain⟨rfl,hf⟩:=h1
  obtain⟨a,vs,rfl,_⟩:=h2
  exact absurd (show false=true from hf) Bool.false_ne_true
 | .l xs,.f w,v,h1,h2=>by
  unfold DatOk at h1 h2
  obtain⟨rfl,hf⟩:=h2
  obtain⟨a,vs,rfl,_⟩:=h1
  exact absurd (show false=true from hf) Bool.false_ne_true
 | .t xs,.f w,v,h1,h2=>by
  unfold DatOk at h1 h2
  obtain⟨rfl,hf⟩:=h2
  obtain⟨a,vs,rfl,_⟩:=h1
  exact absurd (show false=true from hf) Bool.false_ne_true
 | .l xs,.l ys,v,h1,h2=>by
  unfold DatOk at h1 h2
  obtain⟨a,vs,rfl,q1,r1⟩:=h1
  obtain⟨b,ws,e,q2,r2⟩:=h2
  cases e
  have:=I.list_inj q1 q2
  subst this
  unfold deq
  exact DatsOk.uniq (K:=K) I xs ys vs r1 r2
 | .t xs,.t ys,v,h1,h2=>by
  unfold DatOk at h1 h2
  obtain⟨a,vs,rfl,q1,r1⟩:=h1
  obtain⟨b,ws,e,q2,r2⟩:=h2
  cases e
  have:=I.tuple_inj q1 q2
  subst this
  unfold deq
  exact DatsOk.uniq (K:=K) I xs ys vs r1 r2
 | .l xs,.t ys,v,h1,h2=>by
  unfold DatOk at h1 h2
  obtain⟨a,vs,rfl,q1,r1⟩:=h1
  obtain⟨b,ws,e,q2,r2⟩:=h2
  cases e
  obtain⟨_,_,⟨o,n,e1,c1,_⟩,_⟩:=I.list q1
  obtain⟨_,_,⟨o',e2,c2,_⟩,_⟩:=I.tuple q2
  rw[e1]at e2;cases e2
  rw[c1]at c2;exact absurd c2 (by simp)
 | .t xs,.l ys,v,h1,h2=>by
  unfold DatOk at h1 h2
  obtain⟨a,vs,rfl,q1,r1⟩:=h1
  obtain⟨b,ws,e,q2,r2⟩:=h2
  cases e
  obtain⟨_,_,⟨o',e2,c2,_⟩,_⟩:=I.tuple q1
  obtain⟨_,_,⟨o,n,e1,c1,_⟩,_⟩:=I.list q2
  rw[e1]at e2;cases e2
  rw[c1]at c2;exact absurd c2 (by simp)
theorem DatsOk.uniq {K:PySem.W.Frag}{X:Cx}{pins:List (Addr×Obj)}{σ:St}{H:Hp}{s:Shared}(I:Inv X pins σ H s):∀(xs ys:List DT) (vs:List V),DatsOk X.K H xs vs→DatsOk X.K H ys vs→deqs xs ys=true
 | [],[],vs,h1,h2=>by unfold deqs;rfl
 | [],y::ys,vs,h1,h2=>by
  unfold DatsOk at h1 h2
  subst h1
  obtain⟨_,_,e,_⟩:=h2
  cases e
 | x::xs,[],vs,h1,h2=>by
  unfold DatsOk at h1 h2
  subst h2
  obtain⟨_,_,e,_⟩:=h1
  cases e
 | x::xs,y::ys,vs,h1,h2=>by
  unfold DatsOk at h1 h2
  obtain⟨v,r,rfl,a1,a2⟩:=h1
  obtain⟨v',r',e,b1,b2⟩:=h2
  cases e
  unfold deqs
  rw[DatOk.uniq (K:=K) I x y v a1 b1,DatsOk.uniq (K:=K) I xs ys r a2 b2]
  rfl
end
section
variable {X:Cx}{pins:List (Addr×Obj)}{σ:St}{H:Hp}{s:Shared}
open SeqAt
theorem ZdF {A:Around}{w:V}{u:Value}{l:Addr}{items:Array Value}(hf:Zbg w=true)(r:RelV w u)(hl:s.heap.IsList l items)(hu:A.units<cLine):EqAt A s u (.ref l) false∧EqAt A s (.ref l) u false∧RcAt A s u (.ref l) false∧RcAt A s (.ref l) u false∧RcNeAt A s u (.ref l) true∧RcNeAt A s (.ref l) u true:=by
 cases w with
 | non=>cases r;exact⟨.none_list hl hu,.list_none hl hu,.none_list hl hu,.list_none hl hu,.none_list hl hu,.list_none hl hu⟩
 | bl b=>cases r;exact⟨.bool_list b hl hu,.list_bool b hl hu,.bool_list b hl hu,.list_bool b hl hu,.bool_list b hl hu,.list_bool b hl hu⟩
 | int i=>obtain⟨t,rfl⟩:=r;exact⟨.int_list i t hl hu,.list_int i t hl hu,.int_list i t hl hu,.list_int i t hl hu,.int_list i t hl hu,.list_int i t hl hu⟩
 | str i=>obtain⟨t,rfl⟩:=r;exact⟨.str_list i t hl hu,.list_str i t hl hu,.str_list i t hl hu,.list_str i t hl hu,.str_list i t hl hu,.list_str i t hl hu⟩
 | _=>exact absurd (show false=true from hf) Bool.false_ne_true
theorem ZdE {A:Around}{w:V}{u:Value}{l:Addr}{items:Array Value}(hf:Zbg w=true)(r:RelV w u)(hl:s.heap.IsTuple l items)(hu:A.units<cLine):EqAt A s u (.ref l) false∧EqAt A s (.ref l) u false∧RcAt A s u (.ref l) false∧RcAt A s (.ref l) u false∧RcNeAt A s u (.ref l) true∧RcNeAt A s (.ref l) u true:=by
 cases w with
 | non=>cases r;exact⟨.none_tuple hl hu,.tuple_none hl hu,.none_tuple hl hu,.tuple_none hl hu,.none_tuple hl hu,.tuple_none hl hu⟩
 | bl b=>cases r;exact⟨.bool_tuple b hl hu,.tuple_bool b hl hu,.bool_tuple b hl hu,.tuple_bool b hl hu,.bool_tuple b hl hu,.tuple_bool b hl hu⟩
 | int i=>obtain⟨t,rfl⟩:=r;exact⟨.int_tuple i t hl hu,.tuple_int i t hl hu,.int_tuple i t hl hu,.tuple_int i t hl hu,.int_tuple i t hl hu,.tuple_int i t hl hu⟩
 | str i=>obtain⟨t,rfl⟩:=r;exact⟨.str_tuple i t hl hu,.tuple_str i t hl hu,.str_tuple i t hl hu,.tuple_str i t hl hu,.str_tuple i t hl hu,.tuple_str i t hl hu⟩
 | _=>exact absurd (show false=true from hf) Bool.false_ne_true
theorem ZkQ {A:Around}{l b:Addr}{ps qs:List Value}{xs ys:List DT}(hl:s.heap.IsList l ps.toArray)(hb:s.heap.IsList b qs.toArray)(n1:ps.length=xs.length)(n2:qs.length=ys.length)(hu:A.units<cLine)
  (he:∀j (h1:j<ps.length) (h2:j<qs.length),EqAt A.in1 s ps[j] qs[j] (ZaE xs ys j)):RcAt A s (.ref l) (.ref b) (deqs xs ys)∧RcNeAt A s (.ref l) (.ref b) (!deqs xs ys):=by
 rw[Ze8]
 by_cases hz:ps.length=qs.length
 ·have hsz:ps.toArray.size=qs.toArray.size:=by rw[List.size_toArray,List.size_toArray];exact hz
  have e1:((List.range (min xs.length ys.length)).all (ZaE xs ys)&&xs.length == ys.length)=(List.range ps.toArray.size).all (ZaE xs ys):=by
   have:xs.length=ys.length:=by omega
   rw[List.size_toArray,n1,←this,Nat.min_self]
   simp
  rw[e1]
  exact⟨RcAt.lists hl hb hsz hu fun j j1 j2=>by simpa using he j (by simpa using j1) (by simpa using j2),RcNeAt.lists hl hb hsz hu fun j j1 j2=>by simpa using he j (by simpa using j1) (by simpa using j2)⟩
 ·have e1:((List.range (min xs.length ys.length)).all (ZaE xs ys)&&xs.length == ys.length)=false:=by
   have:xs.length≠ys.length:=by omega
   simp[this]
  rw[e1]
  have hsz:(ps.toArray.size != qs.toArray.size)=true:=by rw[List.size_toArray,List.size_toArray];simpa using hz
  exact⟨RcAt.lists_lengths hl hb hsz hu,RcNeAt.lists_lengths hl hb hsz hu⟩
theorem ZkP {A:Around}{l b:Addr}{ps qs:List Value}{xs ys:List DT}(hl:s.heap.IsTuple l ps.toArray)(hb:s.heap.IsTuple b qs.toArray)(n1:ps.length=xs.length)(n2:qs.length=ys.length)(hu:A.units<cLine)
  (he:∀j (h1:j<ps.length) (h2:j<qs.length),EqAt A.in1 s ps[j] qs[j] (ZaE xs ys j)):RcAt A s (.ref l) (.ref b) (deqs xs ys)∧RcNeAt A s (.ref l) (.ref b) (!deqs xs ys):=by
 have e1:deqs xs ys=((List.range (min ps.toArray.size qs.toArray.size)).all (ZaE xs ys)&&ps.toArray.size == qs.toArray.size):=by
  rw[Ze8,List.size_toArray,List.size_toArray,n1,n2]
 rw[e1]
 exact⟨RcAt.tuples hl hb hu fun j j1 j2=>by simpa using he j (by simpa using j1) (by simpa using j2),RcNeAt.tuples hl hb hu fun j j1 j2=>by simpa using he j (by simpa using j1) (by simpa using j2)⟩
mutual
theorem ZlG (I:Inv X pins σ H s):∀(d e:DT) (A:Around) (x y:V) (u v:Value),DatOk X.K H d x→DatOk X.K H e y→RelV x u→RelV y v→A.units+dep d<cLine→EqAt A s u v (deq d e)
 | .f w,.f w',A,x,y,u,v,h1,h2,ru,rv,hu=>by
  unfold DatOk at h1 h2
  obtain⟨rfl,f1⟩:=h1
  obtain⟨rfl,f2⟩:=h2
  unfold deq
  exact ZiZ ru rv f1 f2
 | .f w,.l ys,A,x,y,u,v,h1,h2,ru,rv,hu=>by
  unfold DatOk at h1 h2
  obtain⟨rfl,f1⟩:=h1
  obtain⟨a,vs,rfl,q,_⟩:=h2
  cases rv
  obtain⟨its,_,p,_⟩:=I.list q
  unfold deq
  exact(ZdF f1 ru p.isList (by unfold dep at hu;omega)).1
 | .f w,.t ys,A,x,y,u,v,h1,h2,ru,rv,hu=>by
  unfold DatOk at h1 h2
  obtain⟨rfl,f1⟩:=h1
  obtain⟨a,vs,rfl,q,_⟩:=h2
  cases rv
  obtain⟨its,_,p,_⟩:=I.tuple q
  unfold deq
  exact(ZdE f1 ru (show s.heap.IsTuple a its.toArray from p) (by unfold dep at hu;omega)).1
 | .l xs,.f w,A,x,y,u,v,h1,h2,ru,rv,hu=>by
  unfold DatOk at h1 h2
  obtain⟨rfl,f1⟩:=h2
  obtain⟨a,vs,rfl,q,_⟩:=h1
  cases ru
  obtain⟨its,_,p,_⟩:=I.list q
  unfold deq
  exact(ZdF f1 rv p.isList (by omega)).2.1
 | .t xs,.f w,A,x,y,u,v,h1,h2,ru,rv,hu=>by
  unfold DatOk at h1 h2
  obtain⟨rfl,f1⟩:=h2
  obtain⟨a,vs,rfl,q,_⟩:=h1
  cases ru
  obtain⟨its,_,p,_⟩:=I.tuple q
  unfold deq
  exact(ZdE f1 rv (show s.heap.IsTuple a its.toArray from p) (by omega)).2.1
 | .l xs,.t ys,A,x,y,u,v,h1,h2,ru,rv,hu=>by
  unfold DatOk at h1 h2
  obtain⟨a,vs,rfl,q,_⟩:=h1
  obtain⟨b,ws,rfl,q',_⟩:=h2
  cases ru
  cases rv
  obtain⟨its,_,p,_⟩:=I.list q
  obtain⟨its',_,p',_⟩:=I.tuple q'
  unfold deq
  exact EqAt.list_tuple p.isList (show s.heap.IsTuple b its'.toArray from p') (by omega)
 | .t xs,.l ys,A,x,y,u,v,h1,h2,ru,rv,hu=>by
  unfold DatOk at h1 h2
  obtain⟨a,vs,rfl,q,_⟩:=h1
  obtain⟨b,ws,rfl,q',_⟩:=h2
  cases ru
  cases rv
  obtain⟨its,_,p,_⟩:=I.tuple q
  obtain⟨its',_,p',_⟩:=I.list q'
  unfold deq
  exact EqAt.tuple_list (show s.heap.IsTuple a its.toArray from p) p'.isList (by omega)
 | .l xs,.l ys,A,x,y,u,v,h1,h2,ru,rv,hu=>by
  by_cases hxy:x=y
  ·subst hxy
   rw[DatOk.uniq (K:=X.K) I (.l xs) (.l ys) x h1 h2]
   unfold DatOk at h1
   obtain⟨a,vs,rfl,_⟩:=h1
   cases ru
   cases rv
   exact EqAt.same _
  ·unfold DatOk at h1 h2
   obtain⟨a,vs,rfl,q,d1⟩:=h1
   obtain⟨b,ws,rfl,q',d2⟩:=h2
   cases ru
   cases rv
   obtain⟨its,r,p,_⟩:=I.list q
   obtain⟨its',r',p',_⟩:=I.list q'
   unfold deq
   unfold dep at hu
   refine EqAt.of_refs (fun e=>hxy (by rw[e])) (ZkQ p.isList p'.isList (by rw[←r.length,d1.length]) (by rw[←r'.length,d2.length]) (by omega) fun j j1 j2=>?_).1
   exact ZcI I xs ys A.in1 vs ws its its' d1 d2 r r' (by show A.units+1+_<_;omega) j j1 j2
 | .t xs,.t ys,A,x,y,u,v,h1,h2,ru,rv,hu=>by
  by_cases hxy:x=y
  ·subst hxy
   rw[DatOk.uniq (K:=X.K) I (.t xs) (.t ys) x h1 h2]
   unfold DatOk at h1
   obtain⟨a,vs,rfl,_⟩:=h1
   cases ru
   cases rv
   exact EqAt.same _
  ·unfold DatOk at h1 h2
   obtain⟨a,vs,rfl,q,d1⟩:=h1
   obtain⟨b,ws,rfl,q',d2⟩:=h2
   cases ru
   cases rv
   obtain⟨its,r,p,_⟩:=I.tuple q
   obtain⟨its',r',p',_⟩:=I.tuple q'
   unfold deq
   unfold dep at hu
   refine EqAt.of_refs (fun e=>hxy (by rw[e])) (ZkP (show s.heap.IsTuple a its.toArray from p) (show s.heap.IsTuple b its'.toArray from p') (by rw[←r.length,d1.length]) (by rw[←r'.length,d2.length]) (by omega) fun j j1 j2=>?_).1
   exact ZcI I xs ys A.in1 vs ws its its' d1 d2 r r' (by show A.units+1+_<_;omega) j j1 j2
theorem ZcI (I:Inv X pins σ H s):∀(xs ys:List DT) (A:Around) (vs ws:List V) (ps qs:List Value),DatsOk X.K H xs vs→DatsOk X.K H ys ws→Vals vs ps→Vals ws qs→A.units+deps xs<cLine →
  ∀(j:Nat) (h1:j<ps.length) (h2:j<qs.length),EqAt A s ps[j] qs[j] (ZaE xs ys j)
 | [],ys,A,vs,ws,ps,qs,d1,d2,r1,r2,hu,j,h1,h2=>by
  unfold DatsOk at d1
  subst d1
  cases r1
  exact absurd h1 (Nat.not_lt_zero _)
 | x::xs,[],A,vs,ws,ps,qs,d1,d2,r1,r2,hu,j,h1,h2=>by
  unfold DatsOk at d2
  subst d2
  cases r2
  exact absurd h2 (Nat.not_lt_zero _)
 | x::xs,y::ys,A,vs,ws,ps,qs,d1,d2,r1,r2,hu,j,h1,h2=>by
  unfold DatsOk at d1 d2
  obtain⟨v,vr,rfl,a1,a2⟩:=d1
  obtain⟨w,wr,rfl,b1,b2⟩:=d2
  unfold deps at hu
  cases r1 with
  | cons ru rus=>
   cases r2 with
   | cons rv rvs=>
    cases j with
    | zero=>
     have:=ZlG I x y A v w _ _ a1 b1 ru rv (by omega)
     simpa [ZaE] using this
    | succ j=>
     have:=ZcI I xs ys A vr wr _ _ a2 b2 rus rvs (by omega) j (Nat.lt_of_succ_lt_succ h1) (Nat.lt_of_succ_lt_succ h2)
     simpa [ZaE] using this
end
theorem ZkO (I:Inv X pins σ H s){d e:DT}{A:Around}{x y:V}{u v:Value}(h1:DatOk X.K H d x)(h2:DatOk X.K H e y)(ru:RelV x u)(rv:RelV y v)(hu:A.units+dep d<cLine)(hn:¬(Zbg x=true∧Zbg y=true)):
  RcAt A s u v (deq d e)∧RcNeAt A s u v (!deq d e):=by
 cases d with
 | f w=>
  unfold DatOk at h1
  obtain⟨rfl,f1⟩:=h1
  cases e with
  | f w'=>
   unfold DatOk at h2
   obtain⟨rfl,f2⟩:=h2
   exact absurd ⟨f1,f2⟩ hn
  | l ys=>
   unfold DatOk at h2
   obtain⟨a,vs,rfl,q,_⟩:=h2
   cases rv
   obtain⟨its,_,p,_⟩:=I.list q
   have z:=ZdF (A:=A) f1 ru p.isList (by omega)
   unfold deq
   exact⟨z.2.2.1,z.2.2.2.2.1⟩
  | t ys=>
   unfold DatOk at h2
   obtain⟨a,vs,rfl,q,_⟩:=h2
   cases rv
   obtain⟨its,_,p,_⟩:=I.tuple q
   have z:=ZdE (A:=A) f1 ru (show s.heap.IsTuple a its.toArray from p) (by omega)
   unfold deq
   exact⟨z.2.2.1,z.2.2.2.2.1⟩
 | l xs=>
  unfold DatOk at h1
  obtain⟨a,vs,rfl,q,d1⟩:=h1
  cases ru
  obtain⟨its,r,p,_⟩:=I.list q
  cases e with
  | f w=>
   unfold DatOk at h2
   obtain⟨rfl,f1⟩:=h2
   have z:=ZdF (A:=A) f1 rv p.isList (by omega)
   unfold deq
   exact⟨z.2.2.2.1,z.2.2.2.2.2⟩
  | l ys=>
   unfold DatOk at h2
   obtain⟨b,ws,rfl,q',d2⟩:=h2
   cases rv
   obtain⟨its',r',p',_⟩:=I.list q'
   unfold deq
   unfold dep at hu
   exact ZkQ p.isList p'.isList (by rw[←r.length,d1.length]) (by rw[←r'.length,d2.length]) (by omega) fun j j1 j2=>ZcI I xs ys A.in1 vs ws its its' d1 d2 r r' (by show A.units+1+_<_;omega) j j1 j2
  | t ys=>
   unfold DatOk at h2
   obtain⟨b,ws,rfl,q',d2⟩:=h2
   cases rv
   obtain⟨its',r',p',_⟩:=I.tuple q'
   unfold deq
   exact⟨RcAt.list_tuple p.isList (show s.heap.IsTuple b its'.toArray from p') (by omega),RcNeAt.list_tuple p.isList (show s.heap.IsTuple b its'.toArray from p') (by omega)⟩
 | t xs=>
  unfold DatOk at h1
  obtain⟨a,vs,rfl,q,d1⟩:=h1
  cases ru
  obtain⟨its,r,p,_⟩:=I.tuple q
  cases e with
  | f w=>
   unfold DatOk at h2
   obtain⟨rfl,f1⟩:=h2
   have z:=ZdE (A:=A) f1 rv (show s.heap.IsTuple a its.toArray from p) (by omega)
   unfold deq
   exact⟨z.2.2.2.1,z.2.2.2.2.2⟩
  | t ys=>
   unfold DatOk at h2
   obtain⟨b,ws,rfl,q',d2⟩:=h2
   cases rv
   obtain⟨its',r',p',_⟩:=I.tuple q'
   unfold deq
   unfold dep at hu
   exact ZkP (show s.heap.IsTuple a its.toArray from p) (show s.heap.IsTuple b its'.toArray from p') (by rw[←r.length,d1.length]) (by rw[←r'.length,d2.length]) (by omega) fun j j1 j2=>ZcI I xs ys A.in1 vs ws its its' d1 d2 r r' (by show A.units+1+_<_;omega) j j1 j2
  | l ys=>
   unfold DatOk at h2
   obtain⟨b,ws,rfl,q',d2⟩:=h2
   cases rv
   obtain⟨its',r',p',_⟩:=I.list q'
   unfold deq
   exact⟨RcAt.tuple_list (show s.heap.IsTuple a its.toArray from p) p'.isList (by omega),RcNeAt.tuple_list (show s.heap.IsTuple a its.toArray from p) p'.isList (by omega)⟩
end
def rEqD (K:PySem.W.Frag)(neg:Bool):R2:=fun x y H Q=>(scal x y=true∧Q (.bl (if neg then !decide (x=y) else decide (x=y))) H) ∨
 ∃d e,DatOk K H d x∧DatOk K H e y∧¬(Zbg x=true∧Zbg y=true)∧dep d≤60∧Q (.bl (if neg then !deq d e else deq d e)) H
theorem ZkZ {X:Cx}(hu:X.A.units+64<cLine):OpR X (compareOp .Eq) (rEqD X.K false):=by
 intro pins s σ H x y v u Q I rx ry h
 rcases h with⟨h1,q⟩|⟨d,e,h1,h2,hn,hd,q⟩
 ·exact ZmU pins s σ H x y v u Q I rx ry ⟨h1,q⟩
 ·exact(ZkO I h1 h2 rx ry (by omega) hn).1 _ _ _ _ ⟨.bl _,H,I,rfl,q⟩
theorem ZkY {X:Cx}(hu:X.A.units+64<cLine):OpR X (compareOp .NotEq) (rEqD X.K true):=by
 intro pins s σ H x y v u Q I rx ry h
 rcases h with⟨h1,q⟩|⟨d,e,h1,h2,hn,hd,q⟩
 ·exact ZmS pins s σ H x y v u Q I rx ry ⟨h1,q⟩
 ·exact(ZkO I h1 h2 rx ry (by omega) hn).2 _ _ _ _ ⟨.bl _,H,I,rfl,q⟩
theorem ZfT {K:PySem.W.Frag}{H:Hp}:∀ {vs:List V},vs.all Zbg=true→DatsOk K H (vs.map DT.f) vs
 | [],_=>by unfold DatsOk;rfl
 | v::r,h=>by
  rw[List.all_cons,Bool.and_eq_true]at h
  rw[List.map_cons]
  unfold DatsOk
  exact⟨v,r,rfl,by unfold DatOk;exact⟨rfl,h.1⟩,ZfT h.2⟩
theorem ZhA (vs:List V):deps (vs.map DT.f)=0:=by
 induction vs with
 | nil=>rfl
 | cons v r ih=>rw[List.map_cons];unfold deps;rw[ih];rfl
theorem ZiX (a b:List Nat):eqV (tx a) (tx b)=decide (tx a=tx b):=by
 rw[Zeu]
 show ((⟨a.toArray⟩:Str) == ⟨b.toArray⟩)=_
 by_cases h:a=b
 ·subst h;simp
 ·rw[decide_eq_false h]
  exact beq_eq_false_iff_ne.mpr fun z=>h (Zc0.mp (congrArg V.str z))
theorem datL {K:PySem.W.Frag}{H:Hp}{a:Addr}{vs:List V}(h:SqL K H a vs)(hf:vs.all Zbg=true):DatOk K H (.l (vs.map DT.f)) (.ref a):=by
 unfold DatOk
 exact⟨a,vs,rfl,h,ZfT hf⟩
end L2
namespace L2
open PySem PySem.Spec PyProof.Rows
open PySem.W (Frag findIn specialIn typeIn mroIn clsIn InstAt Looks)
def ZeK:List Value:=[.type "ValueError",.type "Exception",.type "BaseException",.type "object"]
def ZiQ:Value→Bool
 | .ref _=>true
 | _=>false
def xmro (l:List Value):Bool:=l.dropWhile ZiQ == ZeK
theorem Zfj {P:List Value→Prop}(h0:P ZeK)(h1:∀c r,P r→P (.ref c::r)):∀l:List Value,xmro l=true→P l
 | [],e=>by simp[xmro,ZeK]at e
 | v::r,e=>by
  cases hv:ZiQ v with
  | true=>
   cases v with
   | ref c=>
    refine h1 c r (Zfj h0 h1 r ?_)
    unfold xmro at e ⊢
    rw[List.dropWhile_cons,if_pos hv]at e
    exact e
   | _=>cases hv
  | false=>
   unfold xmro at e
   rw[List.dropWhile_cons,if_neg (by rw[hv];exact Bool.false_ne_true)]at e
   rw[show (v::r)=ZeK by simpa using e]
   exact h0
theorem ZhP {n:String}{b:Bool}(h:ZeK.contains (.type n)=b){l:List Value}(e:xmro l=true):l.contains (.type n)=b:=
 Zfj (P:=fun l=>l.contains (.type n)=b) h (fun c r h=>by rw[List.contains_cons,h];rfl) l e
structure Xc (K:Frag)(C:Addr):Prop where
 ga:findIn K (.ref C) "__getattribute__"=some (some (.builtin "BaseException.__getattribute__"))
 gr:findIn K (.ref C) "__getattr__"=some none
 sa:findIn K (.ref C) "__setattr__"=some (some (.builtin "object.__setattr__"))
 hd:PySem.W.hasDictIn K C=true
 mr:(clsIn K C).any (fun cd=>xmro cd.mro)=true
theorem Zi9 {l:List Value}(e:xmro l=true):l.isEmpty=false:=by
 cases l with
 | nil=>simp[xmro,ZeK]at e
 | cons _ _=>rfl
theorem Xc.base {K:Frag}{C:Addr}(c:Xc K C){n:String}{b:Bool}(h:ZeK.contains (.type n)=b):mroIn K C (.type n)=some b:=by
 obtain⟨cd,hc,hm⟩:=PySem.W.any_some c.mr
 unfold PySem.W.mroIn
 rw[hc,Option.bind_some,if_neg (by rw[Zi9 hm];exact Bool.false_ne_true),ZhP h hm]
def xo (a C:Addr)(d:Option Addr):HO:=.ext fun h=>∃(o:Obj) (t:Addr),h.get? a=some o∧o.cls=.ref C∧o.dict=d∧o.data=.fields #[.ref t,.none,.none,.none,.bool false,.none]
def xdO (d:Addr)(fs:List (Str×V)):HO:=.ext fun h=>fs.length≤1000∧∃mA,h.Ns1 d mA∧(∀f,RelO (fs.lookup f) (mA f))∧PySem.Within mA (fs.map (·.1))
inductive XAt (H:Hp) (e C:Addr):List (Str×V)→Prop where
 | bare:H e=some (xo e C none)→XAt H e C []
 | full {d:Addr} {fs:List (Str×V)}:H e=some (xo e C (some d))→H d=some (xdO d fs)→d≠e→XAt H e C fs
section
variable {X:Cx}{pins:List (Addr×Obj)}{σ:St}{H:Hp}{s:Shared}{e C:Addr}{fs:List (Str×V)}{f:Str}{v:V}{A:Around}{E:Value→Shared→Prop}
theorem ZiF {d:Option Addr}(I:Inv X pins σ H s)(h:H e=some (xo e C d)):∃(o:Obj) (t:Addr),s.heap.get? e=some o∧o.cls=.ref C∧o.dict=d∧o.data=.fields #[.ref t,.none,.none,.none,.bool false,.none]:=(I.hok e _ h).1
theorem XAt.inst (I:Inv X pins σ H s)(x:XAt H e C fs):∃(ox:Obj) (od:Option Obj),InstAt s.heap e ox C od∧∀name,∃r,(match od with | some o=>PySem.W.lookIn name o | none=>some none)=some r∧RelO (fs.lookup name) r:=by
 cases x with
 | bare h=>
  obtain⟨o,t,h1,h2,h3,h4⟩:=ZiF I h
  exact⟨o,none,⟨h1,h2,by unfold PySem.W.notCls;rw[h4],by rw[h3];trivial⟩,fun name=>⟨none,rfl,by trivial⟩⟩
 | @full d _ h h' hne=>
  obtain⟨o,t,h1,h2,h3,h4⟩:=ZiF I h
  obtain⟨⟨_,mA,hn,hr,_⟩,_⟩:=I.hok d _ h'
  obtain⟨od,hod,hl⟩:=Zcz hn
  exact⟨o,some od,⟨h1,h2,by unfold PySem.W.notCls;rw[h4],by rw[h3];exact hod⟩,fun name=>⟨mA name,hl name,hr name⟩⟩
theorem Zhz:entryFor table "BaseException.__getattribute__"=some Builtin.«object.__getattribute__»:=F.entry_bexc_ga
end
structure Xm (K:Frag)(C:Addr):Prop where
 c:Xc K C
 ob:∃(nm q:Str) (N:Addr) (bs bm:List Value) (hdct:Bool) (sn:List Str) (sub:List Value) (ab:Bool) (col:Option Bool) (dd:Option Addr) (k0 k1 k2 k3 k5:Option Value),
  K.lookup C=some (excClassObj nm q C N bs bm hdct sn sub ab col dd k0 k1 k2 k3 k5 "ValueError.__new__")
 kp:PySem.W.keepIn K (.ref C)=true
section
variable {prog:Program}{w:World}{A:Around}{E:Value→Shared→Prop}{h:Heap}{g:Array GenState}{d:Drawn}{t:Nat}{os:OsState}{K:Frag}
variable {nm q:Str}{C N:Addr}{bs bm:List Value}{hdct:Bool}{sn:List Str}{sub:List Value}{ab:Bool}{col:Option Bool}{dd:Option Addr}{k0 k1 k2 k3 k5:Option Value}
end
section
variable {X:Cx}{pins:List (Addr×Obj)}{σ:St}{H:Hp}{s:Shared}{C:Addr}{us:List Value}{vs:List V}{Q:VK}
end
structure Xi (K:Frag)(C:Addr):Prop where
 c:Xc K C
 ha:findIn K (.ref C) "__class__"=some (some (.builtin "object.__class__"))
 hn:specialIn K (.builtin "object.__class__") "__get__"=some (some (.builtin "getset_descriptor.__get__"))
 htk:PySem.W.takesIn K (.builtin "object.__class__")=some true
section
variable {K:Frag}{x C:Addr}{ox:Obj}{od:Option Obj}{prog:Program}{w:World}{A:Around}{E:Value→Shared→Prop}{s:Shared}
theorem Zkh {Q:Option Value→Shared→Prop}(i:Xi K C)(KX:K.In s.heap)(I:InstAt s.heap x ox C od)(h:Q (some (.ref C)) { s with toks:=s.toks+1 }):wpAny (model prog w) A (getAttr? (.ref x) "__class__") Q E s:=by
 have c:=i.c
 have hf:PySem.W.findObj K C od "__class__"=some (.bind (.builtin "getset_descriptor.__get__") (.builtin "object.__class__")):=by
  obtain⟨cd,hc,_⟩:=PySem.W.any_some c.hd
  unfold PySem.W.findObj
  rw[hc,i.ha]
  simp only[Option.bind_some,i.hn,i.htk]
 obtain⟨hp,g,d,t,os⟩:=s
 have L0:=I.type (M:=model prog w)
 have L1:=PySem.W.looks_findIn (M:=model prog w) KX c.ga
 have L2:=PySem.W.looks_findIn (M:=model prog w) KX c.gr
 have L3:=PySem.W.looks_find (M:=model prog w) KX I hf
 have L4:=PySem.W.looks_mroIn (M:=model prog w) KX (c.base (n:="BaseException") (b:=true) (by decide +kernel))
 have hm:=c.base (n:="object") (b:=true) (by decide +kernel)
 have hx2:(Value.builtin "BaseException.__getattribute__" == Value.builtin "object.__getattribute__")=false:=by decide +kernel
 have slot:=F.excAttr_ValueError.ga
 unfold getAttr? getAttrBy?
 refine wpAny_bind (wpAny_mkText (wpAny_bind (wpAny_attempt ?_)))
 unfold getAttrBy
 refine wpAny_holding (wpAny_bind (L0.at (wpAny_bind (L1.at ?_))))
 dsimp only
 rw[hx2,Bool.and_false,if_neg Bool.false_ne_true]
 unfold getAttrByItsOwn hookBefore
 refine wpAny_bind ?_
 show wpAny _ _ (if onTheHeap (Value.ref C)=true then typeLookup (.ref C) "__getattr__" else pure none) _ _ _
 rw[if_pos (show onTheHeap (Value.ref C)=true from rfl)]
 refine L2.at (wpAny_bind (wpAny_attempt (wpAny_holding ?_)))
 unfold callGetattribute
 rw[show (false&&onTheHeap (Value.builtin "BaseException.__getattribute__"))=false from rfl,if_neg Bool.false_ne_true]
 unfold boundAndCalled
 rw[slot.bind]
 refine wpAny_bind (wpAny_pure ?_)
 show wpAny _ _ (call (.builtin "BaseException.__getattribute__") [.ref x,.str "__class__" t]) _ _ _
 refine wpAny_call (codeAny_call_builtin slot.plain Zhz ?_)
 refine @PySem.W.check_slot (model prog w) _ _ ⟨hp,g,d,t+1,os⟩ "BaseException.__getattribute__" "BaseException" "__getattribute__" (.ref x) [.str "__class__" t] [] _ (by decide +kernel) (by decide +kernel) (L0.andThen L4) (F.args_bexc_ga (.ref x) (.str "__class__" t)) ?_
 refine wpAny_bind (wpAny_pure (wpAny_bind (wpAny_pure (wpAny_bind (L0.at (wpAny_bind (L3.at ?_)))))))
 show wpAny _ _ (holding [.builtin "object.__class__"] (call (.builtin "getset_descriptor.__get__") [.builtin "object.__class__",.ref x,.ref C]) >>= ret) _ _ _
 refine wpAny_bind (wpAny_holding (wpAny_call (PySem.W.class_get (s:=⟨hp,g,d,t+1,os⟩) (ox:=ox) (od:=od) KX I hm (wpAny_pure ?_))))
 exact PySem.W.handed_on rfl (wpAny_pure h)
theorem ZfG (i:Xi K C):PySem.W.KitX K (.ref x) (.ref C) (fun h=>InstAt h x ox C od) where
 ty:=fun _ _ _ I=>I.type
 it:=fun _ _ KX _=>by
  obtain⟨cd,hc,_⟩:=PySem.W.any_some i.c.hd
  unfold PySem.W.clsIn at hc
  split at hc
  ·rename_i ho
   intro A' Q' E' s' k q
   unfold isType loadHead
   exact wpAny_bind (wpAny_loadPart (k _ _ (KX _ _ ho)) (wpAny_pure q))
  ·cases hc
 ne:=fun h tp dd its n sl KX htp=>by
  obtain⟨cd,hc,_⟩:=PySem.W.any_some i.c.hd
  refine Bool.eq_false_iff.mpr fun q=>?_
  have e:C=tp:=Value.ref.inj (beq_iff_eq.mp q)
  subst e
  unfold PySem.W.clsIn at hc
  split at hc
  ·rename_i ho
   have z:=(KX _ _ ho).symm.trans htp
   cases z
  ·cases hc
 ca:=fun KX I k=>Zkh i KX I k
end
inductive TyX (K:Frag) (H:Hp):V→Value→Prop where
 | pl {x:V} {t:Value} (h:TyOf K H x t):TyX K H x t
 | seqL {a:Addr} {xs:List V} (h:SqL K H a xs):TyX K H (.ref a) (.type "list")
 | seqT {a:Addr} {xs:List V} (h:SqT K H a xs):TyX K H (.ref a) (.type "tuple")
 | exc {e C:Addr} {fs:List (Str×V)} (x:XAt H e C fs) (i:Xi K C):TyX K H (.ref e) (.ref C)
def clsV:V→Option Value
 | .ref a=>some (.ref a)
 | .ty n=>some (.type n)
 | _=>none
theorem Zfe {X:Cx}:ZbC X (.builtin "isinstance") (fun xs H Q=>∃x c t k b,xs=[x,c]∧clsV c=some k∧TyX X.K H x t∧PySem.W.kitOne X.K t k=some b∧Q (.bl b) H):=by
 rintro pins s σ H xs us Q I r ⟨x,c,t,k,b,rfl,hk,ty,e,q⟩
 obtain⟨u,v,rfl,ru,rv⟩:=r.two
 have hv:v=k:=by
  cases c with
  | ref a=>cases hk;exact rv
  | ty n=>cases hk;exact rv
  | _=>cases hk
 subst hv
 cases ty with
 | pl ty=>exact Zhn I ru ty e fun tk=>⟨.bl b,H,I.tok _,rfl,q⟩
 | seqL h=>
  cases ru
  obtain⟨its,_,⟨o,n,ho,hc,_⟩,_⟩:=I.list h
  exact PySem.W.kia_one PySem.W.kitx_list I.kIn ⟨o,ho,hc⟩ e (fun z=>nomatch z) fun tk=>⟨.bl b,H,I.tok _,rfl,q⟩
 | seqT h=>
  cases ru
  obtain⟨its,_,⟨o,ho,hc,_⟩,_⟩:=I.tuple h
  exact PySem.W.kia_one PySem.W.kitx_tuple I.kIn ⟨o,ho,hc⟩ e (fun z=>nomatch z) fun tk=>⟨.bl b,H,I.tok _,rfl,q⟩
 | exc x i=>
  cases ru
  obtain⟨ox,od,J,_⟩:=x.inst I
  exact PySem.W.kia_one (ZfG i) I.kIn J e (fun z=>nomatch z) fun tk=>⟨.bl b,H,I.tok _,rfl,q⟩
def ZlR (K:Frag)(ta:TE)(f:Str):TE:=fun σ H Q=>ta σ H fun x H1=>∃e C fs v,x=.ref e∧XAt H1 e C fs∧Xc K C∧NoAttr K C f∧fs.lookup f=some v∧Q v H1
def ZmI (K:Frag)(ta tv:TE)(f:Str):TS:=fun D σ H=>tv σ H fun y H1=>ta σ H1 fun x H2=>∃e C fs,x=.ref e∧XAt H2 e C fs∧Xc K C∧NoAttr K C f∧fs.length<1000 ∧
 ∀H',XAt H' e C (putF f y fs)→(∀b o,H2 b=some o→b≠e→(∀d,H2 e=some (xo e C (some d))→b≠d)→H' b=some o)→(∃d,H' e=some (xo e C (some d))∧(H2 e=some (xo e C (some d))∨H2 d=none))→D.nx σ H'
def Zjd (K:Frag)(C:Addr)(t:TA):TE:=fun σ H Q=>t σ H fun vs H1=>vs.length≤1000∧∀e,H1 e=none→Q (.ref e) (upd H1 e (xo e C none))
def Zkl (C:Addr)(sp:Sp)(E:XK)(t:TA):TE:=fun σ H Q=>t σ H fun vs H1=>vs.length≤1000∧∀e,H1 e=none→sp (.ref e::vs) (upd H1 e (xo e C none)) (fun v H2=>v=.non∧Q (.ref e) H2) E
section
variable {X:Cx}{o e value:Expr}{es:List Expr}{f x:Str}{p pos pos':Pos}{ta tv:TE}{t:TA}{C fI:Addr}
structure ClsRead (K:Frag)(C:Addr)(f:Str)(v:Value):Prop where
 sp:specialIn K (.ref C) "__getattribute__"=some (some (.builtin "type.__getattribute__"))
 rd:PySem.W.readsIn K C (.type "type")=true
 fd:PySem.W.findCls K (.ref C) (.type "type") f=some (.val v)
 hn:PySem.W.handedIn v=true
def Zkm (K:Frag)(t:TA):TE:=fun σ H Q=>t σ H fun vs H1=>∃e C d rest,vs=.ref e::rest∧H1 e=some (xo e C d)∧Xm K C∧rest.length≤1000∧Q .non H1
end
end L2
namespace L2
open PySem PySem.Spec PyProof.Rows
section
variable {X:Cx}{pins:List (Addr×Obj)}{σ:St}{H:Hp}{s:Shared}
end
def Ite (K:PySem.W.Frag)(a:Addr):It:=
 ⟨fun i H=>∃xs x,SqL K H a xs∧xs[i]?=some x,fun i H x H'=>∃p v,H p=none∧x=.ref p∧H'=upd H p (.tup [.int i,v])∧∀xs,SqL K H a xs→xs[i]?=some v,fun i H=>∃xs,SqL K H a xs∧xs.length≤i⟩
section
variable {X:Cx}{es:List Expr}{x1:Nat}{tp:Pos}
def Znm (K:PySem.W.Frag)(ta:TA):TI:=fun σ H R=>ta σ H fun vs H1=>∃a,vs=[.ref a]∧(∃xs,SqL K H1 a xs)∧R (Ite K a) H1
end
section
variable {H:Hp}{Q:VK}{σ:St}
theorem q_I {C:Int→Int→Prop}{g:Int→Int→V}{i j:Int}:rI C g (.int i) (.int j) H Q=(C i j∧Q (g i j) H):=
 propext ⟨fun ⟨_,_,e1,e2,h⟩=>by cases e1;cases e2;exact h,fun h=>⟨i,j,rfl,rfl,h⟩⟩
theorem q_I0 {g:Int→Int→V}{i j:Int}:rI0 g (.int i) (.int j) H Q=Q (g i j) H:=
 propext ⟨fun ⟨_,_,e1,e2,h⟩=>by cases e1;cases e2;exact h,fun h=>⟨i,j,rfl,rfl,h⟩⟩
theorem q_U {g:Int→V}{i:Int}:rU g (.int i) H Q=Q (g i) H:=
 propext ⟨fun ⟨_,e1,h⟩=>by cases e1;exact h,fun h=>⟨i,rfl,h⟩⟩
theorem q_T {C:List Nat→List Nat→Prop}{g:List Nat→List Nat→V}{a b:List Nat}:rT C g (tx a) (tx b) H Q=(C a b∧Q (g a b) H):=
 propext ⟨fun ⟨_,_,e1,e2,h⟩=>by rw[Zc0.mp e1,Zc0.mp e2];exact h,fun h=>⟨a,b,rfl,rfl,h⟩⟩
theorem q_b {b:Bool}{p:Bool→Prop}:(∃k,V.bl b=V.bl k∧p k)=p b:=
 propext ⟨fun ⟨_,e,h⟩=>by cases e;exact h,fun h=>⟨b,rfl,h⟩⟩
theorem q_var {v:V}{p:V→Prop}:(∃u,some (some v)=some (some u)∧p u)=p v:=
 propext ⟨fun ⟨_,e,h⟩=>by cases e;exact h,fun h=>⟨v,rfl,h⟩⟩
theorem q_var' {v:V}{p:V→Prop}:(∃u,v=u∧p u)=p v:=
 propext ⟨fun ⟨_,e,h⟩=>by cases e;exact h,fun h=>⟨v,rfl,h⟩⟩
end
end L2
namespace L2
open PySem PySem.Spec PyProof.Rows
open PySem.W (Frag findIn specialIn typeIn mroIn clsIn subIn kitOne kitCls)
def ZlK (sc sco:Scope):Bool:=decide (sc.kind=.function)&&sc.names.all fun y=>decide (y.2≠NameKind.cell)&&(decide (y.2≠NameKind.local) || decide (sc.names.lookup y.1=some NameKind.local)) &&
 (decide (y.2≠NameKind.free) || (decide (sco.names.lookup y.1=some NameKind.cell) || decide (sco.names.lookup y.1=some NameKind.free)))
theorem ZbB {X:Cx}{sc:Scope}(h:ZlK sc X.env.scope=true):CmpScope X sc:=by
 unfold ZlK at h
 rw[Bool.and_eq_true,List.all_eq_true]at h
 obtain⟨h1,h2⟩:=h
 refine⟨of_decide_eq_true h1,fun y hy=>?_,fun y hy e=>?_,fun y hy e=>?_⟩
 ·have:=h2 y hy
  simp only[Bool.and_eq_true,Bool.or_eq_true,decide_eq_true_eq]at this
  exact this.1.1
 ·have:=h2 y hy
  simp only[Bool.and_eq_true,Bool.or_eq_true,decide_eq_true_eq]at this
  rcases this.1.2 with z | z
  ·exact absurd e z
  ·exact z
 ·have:=h2 y hy
  simp only[Bool.and_eq_true,Bool.or_eq_true,decide_eq_true_eq]at this
  rcases this.2 with z | z | z
  ·exact absurd e z
  ·exact .inl z
  ·exact .inr z
section
variable {K:Frag}{H:Hp}{C D:Addr}
structure ClsOk (K:Frag)(C:Addr)(mro:List Value):Prop where
 cd:∃cd,clsIn K C=some cd∧cd.mro=mro
 ty:typeIn K (.ref C)=some (.type "type")
 ne:mro.isEmpty=false
theorem Zav {a:Addr}{o:HO}(h:H a=none):Same H (upd H a o):=fun b u hb=>by rw[Zab (Zaf hb h)];exact hb
end
def Mk0 (C:Addr)(H:Hp)(Q:VK):Prop:=∀e,H e=none→Q (.ref e) (upd H e (xo e C none))
def MkI (sp:Sp)(E:XK)(C:Addr)(vs:List V)(H:Hp)(Q:VK):Prop:=∀e,H e=none→sp (.ref e::vs) (upd H e (xo e C none)) (fun v H2=>v=.non∧Q (.ref e) H2) E
def NewL (xs:List V)(H:Hp)(Q:VK):Prop:=∀p,H p=none→Q (.ref p) (upd H p (.lst xs))
def NewT (xs:List V)(H:Hp)(Q:VK):Prop:=∀p,H p=none→Q (.ref p) (upd H p (.tup xs))
section
variable {K:Frag}{C:Addr}{sp:Sp}{E:XK}{t:TA}{σ:St}{H:Hp}{Q:VK}{vs:List V}
theorem ZmN:Zjd K C t σ H Q=t σ H (fun vs H1=>vs.length≤1000∧Mk0 C H1 Q):=rfl
theorem ZmM:Zkl C sp E t σ H Q=t σ H (fun vs H1=>vs.length≤1000∧MkI sp E C vs H1 Q):=rfl
theorem ZmO:tLst t σ H Q=t σ H (fun xs H1=>xs.length≤sizeLine∧NewL xs H1 Q):=rfl
theorem ZmL:tTup t σ H Q=t σ H (fun xs H1=>xs.length≤sizeLine∧NewT xs H1 Q):=rfl
theorem ZmQ {l b:Addr}:rCat (.ref l) (.ref b) H Q=∃xs zs,H l=some (.lst xs)∧H b=some (.lst zs)∧xs.length+zs.length≤sizeLine∧NewL (xs++zs) H Q:=
 propext ⟨fun ⟨_,_,xs,zs,e1,e2,h⟩=>by cases e1;cases e2;exact⟨xs,zs,h⟩,fun ⟨xs,zs,h⟩=>⟨l,b,xs,zs,rfl,rfl,h⟩⟩
theorem NewL.of (h:∀p H',Same H H'→H p=none→H' p=some (.lst vs)→Q (.ref p) H'):NewL vs H Q:=fun p hp=>h p _ (Zav hp) hp Zad
theorem NewT.of (h:∀p H',Same H H'→H p=none→H' p=some (.tup vs)→Q (.ref p) H'):NewT vs H Q:=fun p hp=>h p _ (Zav hp) hp Zad
theorem NewL.at (h:∀p,H p=none→Q (.ref p) (upd H p (.lst vs))):NewL vs H Q:=h
theorem NewT.at (h:∀p,H p=none→Q (.ref p) (upd H p (.tup vs))):NewT vs H Q:=h
theorem ZhI:bootBuiltins "str"=some (.type "str"):=by decide +kernel
theorem Zff:bootBuiltins "list"=some (.type "list"):=by decide +kernel
theorem Zj9:bootBuiltins "dict"=some (.type "dict"):=by decide +kernel
theorem Zi5:bootBuiltins "set"=some (.type "set"):=by decide +kernel
theorem ZaT:bootBuiltins "len"=some (.builtin "len"):=by decide +kernel
theorem Za6:bootBuiltins "isinstance"=some (.builtin "isinstance"):=by decide +kernel
theorem ZlN:bootBuiltins "all"=some (.builtin "all"):=by decide +kernel
theorem ZlM:bootBuiltins "any"=some (.builtin "any"):=by decide +kernel
theorem ZcN:bootBuiltins "sorted"=some (.builtin "sorted"):=by decide +kernel
end
def Own (K:Frag)(H:Hp)(d:DT)(x:V):Prop:=DatOk K H d x∧deq d d=true∧dep d≤60
theorem SqL.mk {K:Frag}{H:Hp}{a:Addr}{xs:List V}(h:H a=some (.lst xs)):SqL K H a xs:=.inl (.inl h)
section
variable {X:Cx}{K:Frag}
theorem Za8 (hK:X.K=K)(hu:X.A.units+64<cLine):OpR X (compareOp .Eq) (rEqD K false):=by subst hK;exact ZkZ hu
theorem Zdt (hK:X.K=K)(hu:X.A.units+64<cLine):OpR X (compareOp .NotEq) (rEqD K true):=by subst hK;exact ZkY hu
theorem ZfJ (hK:X.K=K):IxR X (rIxL K):=by subst hK;exact ZjP
theorem Zgb (hK:X.K=K):OpR X (compareOp .In) (rIn K false):=by subst hK;exact Zg3
theorem ZbR (hK:X.K=K):OpR X (compareOp .NotIn) (rIn K true):=by subst hK;exact Zd9
theorem Zap (hK:X.K=K):ZbC X (.builtin "len") (fun xs H Q=>∃x n,xs=[x]∧LenV K x H n∧Q (.int n) H):=by subst hK;exact ZiA
theorem ZdN (hK:X.K=K):ZbC X (.type "list") (fun xs H Q=>∃p ys,xs=[.ref p]∧(SqL K H p ys∨SqT K H p ys)∧∀l,H l=none→Q (.ref l) (upd H l (.lst ys))):=by subst hK;exact ZeA
theorem ZeV {e:Expr}{f:Str}{pos:Pos}{ta:TE}(hK:X.K=K)(he:PE X e ta)(hb:attributeBase e f X.env (eval e X.env)=eval e X.env):PE X (.Attribute e f pos) (tFld K ta f):=by subst hK;exact ZkW he hb
theorem ZaV {tg l:Expr}{tl:TE}(hK:X.K=K)(hl:PE X l tl):PI X tg l (ZjU K tl):=by subst hK;exact Zjz hl
end
theorem cxK {CX:CXT}{P:Program}{w:World}{K:PySem.W.Frag}{mg:Str→Option Value}{base:Heap}{N:List Str}{qual:Str}{scope:Scope}{f:Addr}{cd:Value}{A:Around}{outer:List Env}{s:Shared}{H:Hp}{E:XK}:
  (cxOf CX P w K mg base N qual scope f cd A outer s H E).K=K:=rfl
theorem bxK {X:Cx}{sc:Scope}{N:List Str}{fp:List Addr}{s₀:Shared}{H:Hp}{pn:List (Addr×Obj)}:(bx X sc N fp s₀ H pn).K=X.K:=rfl
end L2
namespace L2
open PySem PySem.Spec PyProof.Rows
open PySem.W (Frag)
def ForRun (J:It)(g:TG)(tb:TS)(D:Ends)(σ:St)(H:Hp):Prop:=∃W:Nat→Nat→St→Hp→Prop,(∃m,W 0 m σ H)∧∀i m σ H,W i m σ H →
 (J.stop i H∧D.nx σ H)∨(J.go i H∧∃N:St→Hp→Prop,(∀σ' H',N σ' H'→∃m',m'<m∧W (i+1) m' σ' H')∧∀x H',J.yld i H x H'→g x σ H' fun σ2 H2=>tb { D with nx:=N,ct:=N,bk:=D.nx } σ2 H2)
theorem ZmP {wi:TI}{g:TG}{tb:TS}{D:Ends}{σ:St}{H:Hp}:tFor wi g tb D σ H=wi σ H fun J H1=>ForRun J g tb D σ H1:=rfl
def CompRun (J:It)(τ0:St)(g:TG)(tt:TT)(te:TE)(H1:Hp)(Q:VK):Prop:=∀acc,H1 acc=none→∃W:Nat→Nat→St→Hp→Prop,(∃m,W 0 m τ0 (upd H1 acc (.lst []))) ∧
 ∀i m τ H2,W i m τ H2→(J.stop i H2∧Q (.ref acc) H2)∨(J.go i H2∧∃Nx:St→Hp→Prop,(∀τ' H',Nx τ' H'→∃m',m'<m∧W (i+1) m' τ' H') ∧
  ∀x H3,J.yld i H2 x H3→g x τ H3 fun τ2 H4=>tt τ2 H4 fun b H5=>if b=true then te τ2 H5 fun y H6=>∃ys,H6 acc=some (.lst ys)∧ys.length<sizeLine∧Nx τ2 (upd H6 acc (.lst (ys++[y]))) else Nx τ2 H5)
theorem ZkR {ix:List (Option Nat)}{wi:TI}{g:TG}{tt:TT}{te:TE}{σ:St}{H:Hp}{Q:VK}:Zjh ix wi g tt te σ H Q=wi σ H fun J H1=>CompRun J (pick ix σ) g tt te H1 Q:=rfl
section
variable {g:TG}{tb:TS}{D:Ends}{σ:St}{H:Hp}{K:Frag}{a:Addr}{xs:List V}
theorem ForRun.list (Pv:Nat→St→Hp→Prop)(h0:Pv 0 σ H)(hl:∀i σ H,i≤xs.length→Pv i σ H→SqL K H a xs)
  (hs:∀i x σ H,xs[i]?=some x→Pv i σ H→g x σ H fun σ2 H2=>tb { D with nx:=Pv (i+1),ct:=Pv (i+1),bk:=D.nx } σ2 H2) (hd:∀σ H,Pv xs.length σ H→D.nx σ H):ForRun (Itl K a) g tb D σ H:=
 Zir Pv h0 hl hs hd
theorem ForRun.range {lo:Int}{n:Nat}(Pv:Nat→St→Hp→Prop)(h0:Pv 0 σ H)
  (hs:∀i σ H,i<n→Pv i σ H→g (.int (lo+i)) σ H fun σ2 H2=>tb { D with nx:=Pv (i+1),ct:=Pv (i+1),bk:=D.nx } σ2 H2) (hd:∀σ H,Pv n σ H→D.nx σ H):
  ForRun (Itr lo n) g tb D σ H:=Zhv Pv h0 hs hd
theorem ForRun.text {l:List Nat}(Pv:Nat→St→Hp→Prop)(h0:Pv 0 σ H)
  (hs:∀i c σ H,l[i]?=some c→Pv i σ H→g (tx [c]) σ H fun σ2 H2=>tb { D with nx:=Pv (i+1),ct:=Pv (i+1),bk:=D.nx } σ2 H2) (hd:∀σ H,Pv l.length σ H→D.nx σ H):
  ForRun (Its l) g tb D σ H:=Ziq Pv h0 hs hd
end
section
variable {tt:TT}{te:TE}{Q:VK}{τ0:St}{H:Hp}
theorem CompRun.gen {J:It}{n:Nat}(v:Nat→V)(b:Nat→Bool)(f:Nat→V)(hz:n≤1000)(hgo:∀i H',i<n→Same H H'→J.go i H')(hst:∀H',Same H H'→J.stop n H')(hy:∀i H' x H3,i<n→Same H H'→J.yld i H' x H3→H3=H'∧x=v i)
  (ht:∀i H' Q',i<n→Same H H'→(∀H'',Same H' H''→Q' (b i) H'')→tt (τ0.set 0 (some (v i))) H' Q')
  (he:∀i H' Q',i<n→b i=true→Same H H'→(∀H'',Same H' H''→Q' (f i) H'')→te (τ0.set 0 (some (v i))) H' Q')
  (hQ:∀p H',Same H H'→H p=none→H' p=some (.lst (((List.range n).filter b).map f))→Q (.ref p) H'):CompRun J τ0 (ZbK 0) tt te H Q:=by
 intro acc ha
 refine⟨fun i m τ H2=>i≤n∧m=n-i∧(∀w:Option V,τ.set 0 w=τ0.set 0 w)∧Same H H2∧H2 acc=some (.lst (((List.range i).filter b).map f)),⟨n,Nat.zero_le _,rfl,fun _=>rfl,Zav ha,Zad⟩,?_⟩
 rintro i m τ H2 ⟨hi,rfl,hτ,hs,hacc⟩
 by_cases hlt:i<n
 ·refine .inr ⟨hgo i H2 hlt hs,fun τ' H'=>(∀w:Option V,τ'.set 0 w=τ0.set 0 w)∧Same H H'∧H' acc=some (.lst (((List.range (i+1)).filter b).map f)),fun τ' H' q=>⟨n-(i+1),by omega,hlt,rfl,q⟩,fun x H3 y=>?_⟩
  obtain⟨rfl,rfl⟩:=hy i H2 x H3 hlt hs y
  show tt (τ.set 0 (some (v i))) _ _
  rw[hτ]
  have hτ':∀w:Option V,(τ0.set 0 (some (v i))).set 0 w=τ0.set 0 w:=fun w=>by rw[List.set_set]
  refine ht i _ _ hlt hs fun H4 s4=>?_
  cases hb:b i with
  | false=>
   rw[if_neg Bool.false_ne_true]
   refine⟨hτ',hs.trans s4,?_⟩
   rw[s4 _ _ hacc,List.range_succ,List.filter_append]
   simp[hb]
  | true=>
   rw[if_pos rfl]
   refine he i _ _ hlt hb (hs.trans s4) fun H5 s5=>?_
   refine⟨_,s5 _ _ (s4 _ _ hacc),?_,hτ',?_,?_⟩
   ·rw[List.length_map]
    have:=List.length_filter_le b (List.range i)
    rw[List.length_range]at this
    exact Zcl (by omega)
   ·intro c o hc
    have:c≠acc:=Zaf hc ha
    rw[Zab this]
    exact s5 _ _ (s4 _ _ (hs _ _ hc))
   ·rw[Zad,List.range_succ,List.filter_append]
    simp[hb]
 ·have e:i=n:=by omega
  subst e
  exact .inl ⟨hst H2 hs,hQ acc H2 hs ha hacc⟩
theorem CompRun.range {lo:Int}{n:Nat}(b:Nat→Bool)(f:Nat→V)(hz:n≤1000)
  (ht:∀(i:Nat) H' Q',i<n→Same H H'→(∀H'',Same H' H''→Q' (b i) H'')→tt (τ0.set 0 (some (.int (lo+i)))) H' Q')
  (he:∀(i:Nat) H' Q',i<n→b i=true→Same H H'→(∀H'',Same H' H''→Q' (f i) H'')→te (τ0.set 0 (some (.int (lo+i)))) H' Q')
  (hQ:∀p H',Same H H'→H p=none→H' p=some (.lst (((List.range n).filter b).map f))→Q (.ref p) H'):CompRun (Itr lo n) τ0 (ZbK 0) tt te H Q:=
 .gen (fun i=>.int (lo+i)) b f hz (fun i _ h _=>h) (fun _ _=>Nat.le_refl _) (fun i H' x H3 _ _ y=>y) ht he hQ
theorem filter_all {n:Nat}{f:Nat→V}:((List.range n).filter fun _=>true).map f=(List.range n).map f:=by rw[List.filter_eq_self.mpr (fun _ _=>rfl)]
theorem CompRun.rangeA {lo:Int}{n:Nat}(f:Nat→V)(hz:n≤1000)
  (he:∀(i:Nat) H' Q',i<n→Same H H'→(∀H'',Same H' H''→Q' (f i) H'')→te (τ0.set 0 (some (.int (lo+i)))) H' Q')
  (hQ:∀p H',Same H H'→H p=none→H' p=some (.lst ((List.range n).map f))→Q (.ref p) H'):CompRun (Itr lo n) τ0 (ZbK 0) tAll te H Q:=
 .range (fun _=>true) f hz (fun i H' Q' _ _ q=>q H' (Same.refl _)) (fun i H' Q' hi _=>he i H' Q' hi) fun p H' s n e=>hQ p H' s n (by rw[e,filter_all])
theorem CompRun.text {l:List Nat}(b:Nat→Bool)(f:Nat→V)(hz:l.length≤1000)
  (ht:∀i H' Q' (h:i<l.length),Same H H'→(∀H'',Same H' H''→Q' (b i) H'')→tt (τ0.set 0 (some (tx [l.getD i 0]))) H' Q')
  (he:∀i H' Q' (h:i<l.length),b i=true→Same H H'→(∀H'',Same H' H''→Q' (f i) H'')→te (τ0.set 0 (some (tx [l.getD i 0]))) H' Q')
  (hQ:∀p H',Same H H'→H p=none→H' p=some (.lst (((List.range l.length).filter b).map f))→Q (.ref p) H'):CompRun (Its l) τ0 (ZbK 0) tt te H Q:=
 .gen (fun i=>tx [l.getD i 0]) b f hz (fun i _ h _=>h) (fun _ _=>Nat.le_refl _) (fun i H' x H3 _ _ y=>by
  obtain⟨e,c,hc,rfl⟩:=y
  refine⟨e,?_⟩
  rw[List.getD_eq_getElem?_getD,hc];rfl) ht he hQ
end
theorem Zet:∀ {vs:List V},vs.all Zbg=true→deqs (vs.map DT.f) (vs.map DT.f)=true
 | [],_=>by unfold deqs;rfl
 | v::vs,h=>by
  rw[List.all_cons,Bool.and_eq_true]at h
  rw[List.map_cons]
  unfold deqs
  rw[Zet h.2]
  unfold deq
  rw[ZfQ h.1]
  rfl
theorem ownL {K:Frag}{H:Hp}{a:Addr}{vs:List V}(h:SqL K H a vs)(hf:vs.all Zbg=true):Own K H (.l (vs.map DT.f)) (.ref a):=⟨datL h hf,by unfold deq;exact Zet hf,by unfold dep;rw[ZhA];decide⟩
end L2
namespace L2
open PySem PySem.Spec PyProof.Rows
theorem ZlQ {t:SetTable}{n:Nat}:(t.orStandIn n).led=t.led∧((t.orStandIn n).plain=true→t.plain=true):=by
 unfold SetTable.orStandIn
 split
 ·exact⟨rfl,id⟩
 ·exact⟨rfl,fun h=>by cases h⟩
theorem Zkk {t:SetTable}{es:Array (Int×Value)}{h:Int}{x:Value}:(layNew t es h x).2.1.led=t.led∧((layNew t es h x).2.1.plain=true→t.plain=true):=by
 unfold layNew
 split
 ·rename_i slot wd _
  exact ZlQ (t:=(t.put slot).1)
 ·exact⟨rfl,fun h=>by cases h⟩
theorem Zjc {mask finger moves:Nat}{led plain:Bool}{hs:Array Int}{t':SetTable}{order:Array Nat}(e:SetTable.laid mask finger moves led plain hs=some (t',order)):t'.led=led∧t'.plain=plain:=by
 unfold SetTable.laid at e
 cases hq:SetTable.layClean mask hs with
 | none=>rw[hq]at e;cases e
 | some ow=>
  rw[hq]at e
  have e':=Option.some.inj e
  obtain⟨z,_⟩:=Prod.mk.inj e'
  subst z
  exact⟨rfl,rfl⟩
theorem ZhR {t:SetTable}{es:Array (Int×Value)}{n:Nat}:(relayAll t es n).2.1.led=t.led∧((relayAll t es n).2.1.plain=true→t.plain=true):=by
 unfold relayAll
 split
 ·rename_i t' order q
  obtain⟨h1,h2⟩:=Zjc q
  dsimp only
  split
  ·exact⟨h1,fun h=>by rw[←h2];exact h⟩
  ·exact⟨rfl,fun h=>by cases h⟩
 ·exact⟨rfl,fun h=>by cases h⟩
def TxSet (P:Program)(w:World)(h:Heap)(a:Addr)(ls:List (List Nat))(led:Bool):Prop:=
 ∃(o:Obj) (es:Array (Int×Value)) (ep:Nat) (t:SetTable) (ms:List (List Nat)),h.get? a=some o∧o.ExactSet∧o.data=.set es ep t∧ElemsOf (Zao P w) es.toList∧t.fits es.size=true ∧
  t.led=led∧(t.plain=true→es.size=0)∧ms.Perm ls∧Vals (ms.map tx) (es.toList.map (·.2))∧es.size<scanBound
theorem TxSet.keep {P:Program}{w:World}{h h':Heap}{a:Addr}{ls:List (List Nat)}{led:Bool}(x:TxSet P w h a ls led)(k:∀o,h.get? a=some o→h'.get? a=some o):TxSet P w h' a ls led:=by
 obtain⟨o,es,ep,t,ms,h1,r⟩:=x
 exact⟨o,es,ep,t,ms,k o h1,r⟩
theorem TxSet.typ {P:Program}{w:World}{s:Shared}{a:Addr}{ls:List (List Nat)}{led:Bool}(x:TxSet P w s.heap a ls led):s.TypeIs (.ref a) "set":=by
 obtain⟨o,es,ep,t,ms,h1,h2,_⟩:=x
 exact⟨o,h1,h2.1⟩
def addT (ls:List (List Nat))(l:List Nat):List (List Nat):=if l∈ls then ls else ls++[l]
theorem Znj {l:List Nat}{v:V}{u:Value}(r:RelV v u)(hv:∃m,v=tx m):ZdC (Sum.inr (⟨l.toArray⟩:Str):Key) u=decide (v=tx l):=by
 obtain⟨m,rfl⟩:=hv
 obtain⟨t,rfl⟩:=r
 rw[Zeu]
 simp only[ZdC,Value.isStrOf]
 by_cases h:m=l
 ·subst h;simp
 ·have:¬(⟨m.toArray⟩:Str)=⟨l.toArray⟩:=fun e=>h (Zc0.mp (congrArg V.str e))
  rw[decide_eq_false h]
  simp[this]
theorem Zfk {l:List Nat}:∀ {ms:List (List Nat)} {es:List (Int×Value)},Vals (ms.map tx) (es.map (·.2))→((∃e∈es,ZdC (Sum.inr (⟨l.toArray⟩:Str):Key) e.2=true)↔l∈ms)
 | [],[],_=>by simp
 | [],_::_,r=>by cases r
 | _::_,[],r=>by cases r
 | m::ms,e::es,r=>by
  cases r with
  | cons r1 r2=>
   have ih:=Zfk (l:=l) r2
   have q:=Znj (l:=l) r1 ⟨m,rfl⟩
   rw[Zeu]at q
   constructor
   ·rintro⟨x,hx,hk⟩
    rcases List.mem_cons.mp hx with z | z
    ·subst z
     rw[q]at hk
     exact List.mem_cons.mpr (.inl (of_decide_eq_true hk).symm)
    ·exact List.mem_cons.mpr (.inr (ih.mp ⟨x,z,hk⟩))
   ·intro h
    rcases List.mem_cons.mp h with z | z
    ·exact⟨e,List.mem_cons_self,by rw[q];exact decide_eq_true z.symm⟩
    ·obtain⟨x,hx,hk⟩:=ih.mpr z
     exact⟨x,List.mem_cons_of_mem _ hx,hk⟩
theorem Zci {us us':List Value}(p:us'.Perm us):∀ {ms:List (List Nat)},Vals (ms.map tx) us→∃ms':List (List Nat),ms'.Perm ms∧Vals (ms'.map tx) us':=by
 induction p with
 | nil=>intro ms r;exact⟨ms,.refl _,r⟩
 | cons x _ ih=>
  intro ms r
  cases ms with
  | nil=>cases r
  | cons m ms=>
   cases r with
   | cons r1 r2=>
    obtain⟨ms',p',r'⟩:=ih r2
    exact⟨m::ms',p'.cons _,.cons r1 r'⟩
 | swap x y l=>
  intro ms r
  match ms,r with
  | m1::m2::ms,.cons r1 (.cons r2 r3)=>exact⟨m2::m1::ms,.swap _ _ _,.cons r2 (.cons r1 r3)⟩
 | trans _ _ ih1 ih2=>
  intro ms r
  obtain⟨m1,p1,r1⟩:=ih2 r
  obtain⟨m2,p2,r2⟩:=ih1 r1
  exact⟨m2,p2.trans p1,r2⟩
section
variable {prog:Program}{w:World}{A:Around}{E:Value→Shared→Prop}{s:Shared}
theorem Zfp {g:Bool→Sem Unit}(hg:∀(b:Bool) (s₁:Shared) (Q':Unit→Shared→Prop),Q' () s₁→wpAny (model prog w) A (g b) Q' E s₁){a:Addr}{o:Obj}{es:Array (Int×Value)}{ep:Nat}{t:SetTable}
  (ho:s.heap.get? a=some o) (hd:o.data=.set es ep t) {e1:Array (Int×Value)} {t2:SetTable} (hb:e1.size<scanBound) (hf:t2.fits e1.size=true) {wd:Bool} {R:Option Bool→Shared→Prop}
  (h:∀h' e2 t3 ep',Heap.SameBut a s.heap h'→h'.get? a=some { o with data:=.set e2 ep' t3 }→e2.toList.Perm e1.toList→t3.fits e2.size=true→t3.led=t2.led→(t3.plain=true→t2.plain=true)→R (some true) { s with heap:=h' }):
  wpAny (model prog w) A (do
   storeSet a e1 t2
   if (!wd&&t2.tooFull)=true then do
    g (relayAll t2 e1 (SetTable.grown e1.size)).2.2;storeSet a (relayAll t2 e1 (SetTable.grown e1.size)).1 (relayAll t2 e1 (SetTable.grown e1.size)).2.1;pure (some true)
   else pure (some true)) R E s:=by
 have put:∀ {h:Heap} {ob:Obj} {xs ys:Array (Int×Value)} {n:Nat} {t t':SetTable},h.get? a=some ob→ob.data=.set xs n t→(h.update a (Obj.putSet ys t')).get? a=some { ob with data:=.set ys (n+1) t' }:=fun {h ob xs ys n t t'} h1 h2=>by
  have q:=Heap.get?_update_self (Obj.putSet ys t') h1 (by rw[putSet_of ys t' h2];rfl)
  rwa [putSet_of ys t' h2]at q
 have hs1:=Heap.SameBut.update s.heap a (Obj.putSet e1 t2)
 have g1:=put (ys:=e1) (t':=t2) ho hd
 refine wpAny_bind (wpAny_storeSet_of ho hd ?_ (fits_of_scanBound hb))
 split
 ·have p:=relayAll_perm t2 e1 (SetTable.grown e1.size)
  have f:=relayAll_fits t2 e1 (SetTable.grown e1.size)
  have tm:=ZhR (t:=t2) (es:=e1) (n:=SetTable.grown e1.size)
  have z:(relayAll t2 e1 (SetTable.grown e1.size)).1.size=e1.size:=by rw[←Array.length_toList,p.length_eq,Array.length_toList]
  refine wpAny_bind (hg _ _ _ (wpAny_bind (wpAny_storeSet_of g1 rfl (wpAny_pure ?_) (fits_of_scanBound (by rw[z];exact hb)))))
  exact h _ _ _ _ (hs1.trans (Heap.SameBut.update _ a _)) (put (ob:={ o with data:=.set e1 (ep+1) t2 }) g1 rfl) p f tm.1 tm.2
 ·exact wpAny_pure (h _ _ _ _ hs1 g1 (.refl _) hf rfl id)
theorem Zjq {a:Addr}{ls:List (List Nat)}{led:Bool}{l:List Nat}{tk:Tok}{Q:Bool→Shared→Prop}(hS:TxSet prog w s.heap a ls led)(hn:ls.length+1<scanBound)
  (h:∀h' b,Heap.SameBut a s.heap h'→TxSet prog w h' a (addT ls l) led→Q b { s with heap:=h' }):
  wpAny (model prog w) A (setAddHashed a (.str ⟨l.toArray⟩ tk) (keyH w (Sum.inr ⟨l.toArray⟩))) Q E s:=by
 obtain⟨o,es,ep,t,ms,ho,hex,hd,hel,hf,hled,hpl,hp,hv,hb⟩:=hS
 have hkey:(Zao prog w).is (Sum.inr (⟨l.toArray⟩:Str)) (.str ⟨l.toArray⟩ tk)=true:=by
  exact Zcu prog w _ _
 have hsc:(Value.str ⟨l.toArray⟩ tk).scannable=true:=rfl
 have hlen:es.size=ls.length:=by
  have q:=hv.length
  rw[List.length_map,List.length_map]at q
  rw[←Array.length_toList,←q,hp.length_eq]
 have mem:=Zfk (l:=l) hv
 have hl:l∈ms↔l∈ls:=hp.mem_iff
 unfold setAddHashed setAddHashedIn
 refine wpAny_holding (wpAny_bind (wpAny_setState_of ho hd hf ?_))
 dsimp only
 rw[byScan_of hsc hb hel,if_pos rfl]
 unfold setAddByScan
 refine wpAny_bind (wpAny_bind (wpAny_rule (wpAny_bind (wpAny_setScan_of (knd:=Zao prog w) (k:=Sum.inr (⟨l.toArray⟩:Str)) hkey ho hd hf hel ?_))))
 cases hr:List.findIdx? (fun e=>(Zao prog w).is (Sum.inr (⟨l.toArray⟩:Str)) e.2) es.toList with
 | some j=>
  dsimp only
  obtain⟨hj,hpj,_⟩:=List.findIdx?_eq_some_iff_getElem.mp hr
  have hin:l∈ls:=hl.mp (mem.mp ⟨es.toList[j],List.getElem_mem hj,hpj⟩)
  refine wpAny_pure (wpAny_pure ?_)
  have q:=h s.heap false (Heap.SameBut.refl a s.heap) (by
   unfold addT
   rw[if_pos hin]
   exact⟨o,es,ep,t,ms,ho,hex,hd,hel,hf,hled,hpl,hp,hv,hb⟩)
  exact q
 | none=>
  dsimp only
  have hnin:l∉ls:=fun z=>by
   obtain⟨e,he,hk⟩:=mem.mpr (hl.mpr z)
   have q:=List.findIdx?_eq_none_iff.mp hr e he
   rw[show (Zao prog w).is (Sum.inr (⟨l.toArray⟩:Str)) e.2=true from hk]at q
   cases q
  have lp:=layNew_perm t es (keyH w (Sum.inr ⟨l.toArray⟩)) (.str ⟨l.toArray⟩ tk)
  have lf:=layNew_fits t es (keyH w (Sum.inr ⟨l.toArray⟩)) (.str ⟨l.toArray⟩ tk)
  have lt:=Zkk (t:=t) (es:=es) (h:=keyH w (Sum.inr ⟨l.toArray⟩)) (x:=.str ⟨l.toArray⟩ tk)
  show wpAny _ A (match layNew t es (keyH w (Sum.inr ⟨l.toArray⟩)) (.str ⟨l.toArray⟩ tk) with | (es,t,wasDummy,gave)=>_) _ _ _
  generalize hL:layNew t es (keyH w (Sum.inr ⟨l.toArray⟩)) (.str ⟨l.toArray⟩ tk)=L at lp lf lt ⊢
  obtain⟨e1,t1,wd,gave⟩:=L
  dsimp only at lp lf lt ⊢
  rw[Array.toList_push]at lp
  have sz1:e1.size=ls.length+1:=by rw[←Array.length_toList,lp.length_eq,List.length_append,Array.length_toList,hlen];rfl
  have gw:∀(b:Bool) (s₁:Shared) (Q':Unit→Shared→Prop),Q' () s₁→wpAny (model prog w) A (match b with | true=>rule "set.scan.the-table-gave-way" | false=>pure ()) Q' E s₁:=
   fun b s₁ Q' hq=>by cases b<;>first | exact wpAny_pure hq | exact wpAny_rule hq
  refine wpAny_bind (gw _ _ _ ?_)
  have fin:∀(t2:SetTable),t2.fits e1.size=true→t2.led=t1.led→t2.plain=false→∀h' e2 t3 ep',Heap.SameBut a s.heap h'→h'.get? a=some { o with data:=.set e2 ep' t3 }→e2.toList.Perm e1.toList→t3.fits e2.size=true→t3.led=t2.led→(t3.plain=true→t2.plain=true)→Q true { s with heap:=h' }:=by
   intro t2 f2 l2 p2 h' e2 t3 ep' sb hg pm f3 l3 p3
   refine h h' true sb ?_
   have pall:=pm.trans lp
   obtain⟨ms',pm',hv'⟩:=Zci (us:=(es.toList++[(keyH w (Sum.inr ⟨l.toArray⟩),Value.str ⟨l.toArray⟩ tk)]).map (·.2)) (us':=e2.toList.map (·.2)) (pall.map _) (ms:=ms++[l]) (by
    rw[List.map_append,List.map_append]
    exact hv.append (.cons ⟨tk,rfl⟩ .nil))
   unfold addT
   rw[if_neg hnin]
   refine⟨_,e2,ep',t3,ms',hg,hex,rfl,((hel.push (knd:=Zao prog w) hkey hsc).perm pall),f3,l3.trans (l2.trans (lt.1.trans hled)),fun z=>by rw[p2]at p3;exact absurd (p3 z) Bool.false_ne_true,pm'.trans (hp.append_right [l]),hv',?_⟩
   rw[←Array.length_toList,pm.length_eq,Array.length_toList,sz1]
   exact hn
  split
  ·refine wpAny_bind ?_
   rw[hashByValue_scannable 8 hsc]
   refine wpAny_pure ?_
   refine Zfp gw ho hd (by rw[sz1];exact hn) ?_ fun h' e2 t3 ep' q1 q2 q3 q4 q5 q6=>?_
   ·exact SetTable.fits_plain_off lf
   ·exact wpAny_pure (fin _ (SetTable.fits_plain_off lf) rfl rfl h' e2 t3 ep' q1 q2 q3 q4 q5 q6)
  ·rename_i hnp
   have hnp':t1.plain=false:=by simpa using hnp
   refine wpAny_bind (wpAny_pure ?_)
   rw[if_pos rfl]
   refine Zfp gw ho hd (by rw[sz1];exact hn) lf fun h' e2 t3 ep' q1 q2 q3 q4 q5 q6=>wpAny_pure (fin _ lf rfl hnp' h' e2 t3 ep' q1 q2 q3 q4 q5 q6)
end
def dd (val:Nat→List Nat)(i:Nat):List (List Nat):=((List.range i).map val).foldl addT []
theorem Ze9 {val:Nat→List Nat}{i:Nat}:dd val (i+1)=addT (dd val i) (val i):=by
 unfold dd
 rw[List.range_succ,List.map_append,List.foldl_append]
 rfl
theorem ZiD {ls:List (List Nat)}{l:List Nat}:(addT ls l).length≤ls.length+1:=by
 unfold addT
 split
 ·omega
 ·simp
theorem Zi1 {val:Nat→List Nat}:∀i,(dd val i).length≤i
 | 0=>Nat.le_refl _
 | i+1=>by
  rw[Ze9]
  have h1:=Zi1 (val:=val) i
  have h2:=ZiD (ls:=dd val i) (l:=val i)
  omega
theorem Zcg {val:Nat→List Nat}:∀i,(dd val i).Nodup
 | 0=>by simp[dd]
 | i+1=>by
  rw[Ze9]
  unfold addT
  split
  ·exact Zcg i
  ·rename_i h
   rw[List.nodup_append]
   refine⟨Zcg i,by simp,?_⟩
   intro a ha b hb e
   have:b=val i:=by simpa using hb
   subst e this
   exact h ha
section
variable {prog:Program}{w:World}{A:Around}{R:Result→Shared→Prop}{I:Addr}{fp wr:List Addr}{G:Array GenState→Array GenState→Prop}{n:Nat}{Pi:Nat→Value→Prop}{St:Nat→Shared→Prop}
theorem ZhW (W:WalksS prog w A.in1 I fp wr G n Pi St)(S:Addr)(hSf:S∉fp)(val:Nat→List Nat)(hval:∀i v,Pi i v→∃t,v=.str ⟨(val i).toArray⟩ t)(hb:n+1<scanBound){led:Bool}:
  ∀(k i:Nat) (s:Shared),n-i=k→i≤n→St i s→TxSet prog w s.heap S (dd val i) led→(∀s',Moved (S::wr) G s s'→TxSet prog w s'.heap S (dd val n) led→R (.ok (.ret .none)) s') →
   codeAny (model prog w) A (.builtin "set.update.loop" ⟨[.ref S,.ref I],[]⟩) R s:=by
 have nw:S∉wr:=fun h=>hSf (W.sub _ h)
 have up:∀b∈wr,b∈S::wr:=fun b hb=>List.mem_cons_of_mem _ hb
 intro k
 induction k with
 | zero=>
  intro i s hk hi st hS hR
  have e:i=n:=by omega
  subst e
  refine codeAny_builtin F.entry_set_update_loop ?_
  rw[Around.under_plainId F.plain_set_update_loop _]
  show wpAny _ A.in1 (pyNext (.ref I) >>= fun r=>_) _ _ s
  refine wpAny_bind (W.done s _ _ st fun s' hm=>?_)
  exact wpAny_pure (hR s' (hm.mono up) (hS.keep fun o e=>hm.heap S o nw e))
 | succ k ih=>
  intro i s hk hi st hS hR
  have hlt:i<n:=by omega
  refine codeAny_builtin F.entry_set_update_loop ?_
  rw[Around.under_plainId F.plain_set_update_loop _]
  show wpAny _ A.in1 (pyNext (.ref I) >>= fun r=>_) _ _ s
  refine wpAny_bind (W.item i s _ _ hlt st fun v s1 hP st1 hm=>?_)
  obtain⟨tk,rfl⟩:=hval i v hP
  have hS1:TxSet prog w s1.heap S (dd val i) led:=hS.keep fun o e=>hm.heap S o nw e
  show wpAny _ A.in1 (holding [Value.str ⟨(val i).toArray⟩ tk] (setAdd S (.str ⟨(val i).toArray⟩ tk)) >>= fun _=>_) _ _ s1
  refine wpAny_bind (wpAny_holding ?_)
  unfold setAdd
  refine wpAny_holding (wpAny_bind (wpAny_pyHash_str ?_))
  refine Zjq (s:={ s1 with toks:=s1.toks+1 }) (l:=val i) hS1 (by have:=Zi1 (val:=val) i;omega) fun h' b sb hS2=>?_
  rw[←Ze9]at hS2
  refine wpAny_pure ⟨plainId_quiet F.plain_set_update_loop _,ih (i+1) _ (by omega) hlt (W.frame _ s1 _ _ st1 (Nat.le_succ _) fun b hb o e=>(sb.2 b fun z=>hSf (z▸hb)).trans e) hS2 fun s2 hm2 hS3=>?_⟩
  exact hR s2 (Moved.trans W.gtrans ((hm.mono up).then_heap (Nat.le_succ _) fun b o hb e=>(sb.2 b fun z=>hb (z▸List.mem_cons_self)).trans e) hm2) hS3
end
theorem ZeL {i:Nat}{u:Value}:∀ {vs:List V} {us:List Value} ,Vals vs us→us[i]?=some u→∃v,vs[i]?=some v∧RelV v u:=by
 induction i with
 | zero=>
  intro vs us r e
  cases r with
  | nil=>cases e
  | cons r1 _=>cases e;exact⟨_,rfl,r1⟩
 | succ i ih=>
  intro vs us r e
  cases r with
  | nil=>cases e
  | cons _ r2=>exact ih r2 e
structure Walked (prog:Program)(w:World)(x:Value)(s:Shared)(T:String)(n:Nat)(val:Nat→List Nat):Prop where
 ty:∀s1:Shared,(∀b o,s.heap.get? b=some o→s1.heap.get? b=some o)→s1.TypeIs x T
 go:∀(A:Around) (s1:Shared) (Q:Value→Shared→Prop) (E:Value→Shared→Prop),A.handled=none→(∀b o,s.heap.get? b=some o→s1.heap.get? b=some o) →
  (∀(h2:Heap) (I:Addr) (fp wr:List Addr) (Pi:Nat→Value→Prop) (St:Nat→Heap→Prop),(∀A':Around,A'.handled=none→Walks prog w A' I fp wr n Pi St)→St 0 h2 →
   (∀b∈fp,b<s.heap.objs.size∨s1.heap.objs.size≤b)→(∀b∈wr,s1.heap.objs.size≤b)→(∀b o,s1.heap.get? b=some o→h2.get? b=some o)→(∀i v,Pi i v→∃t,v=.str ⟨(val i).toArray⟩ t)→Q (.ref I) { s1 with heap:=h2 }) →
  wpAny (model prog w) A (pyIter x) Q E s1
theorem ZeJ {prog:Program}{w:World}{s:Shared}{l:Addr}{us:List Value}{ls:List (List Nat)}(hl:s.heap.IsList l us.toArray)(r:Vals (ls.map tx) us):Walked prog w (.ref l) s "list" ls.length (fun i=>ls.getD i []) where
 ty:=fun s1 k=>by
  obtain⟨o,ho,hc,_⟩:=hl
  exact⟨o,k _ _ ho,hc⟩
 go:=fun A s1 Q E hh k h=>by
  obtain⟨o,ho,hc,hr⟩:=id hl
  have hl1:s1.heap.IsList l us.toArray:=⟨o,k _ _ ho,hc,hr⟩
  have hlt:=Heap.lt_size ho
  have hlt1:=Heap.lt_size (k _ _ ho)
  have hlen:us.toArray.size=ls.length:=by rw[List.size_toArray,←r.length,List.length_map]
  refine wpAny_pyIter_list hl1 ?_
  have W:∀A':Around,A'.handled=none→Walks prog w A' s1.heap.objs.size [s1.heap.objs.size,l] [s1.heap.objs.size] ls.length (fun i v=>us.toArray[i]?=some v) (fun i h=>h.IsListIter s1.heap.objs.size l i∧h.IsList l us.toArray):=fun A' hA=>by
   have q:=Walks.list (prog:=prog) (w:=w) hA s1.heap.objs.size l (Nat.ne_of_lt hlt1) us.toArray
   rwa [hlen]at q
  refine h _ _ _ _ _ _ W ⟨⟨_,Heap.get?_push_size _ rfl,rfl,rfl⟩,hl1.push _⟩ (fun b hb=>?_) (fun b hb=>?_) (fun b o e=>Heap.get?_push_of_some _ e) (fun i v e=>?_)
  ·rcases List.mem_cons.mp hb with z | z
   ·exact .inr (Nat.le_of_eq z.symm)
   ·have z:b=l:=by simpa using z
    rw[z];exact .inl hlt
  ·have z:b=s1.heap.objs.size:=by simpa using hb
   exact Nat.le_of_eq z.symm
  ·have e':us[i]?=some v:=by simpa using e
   obtain⟨v',hv',rv⟩:=ZeL r e'
   rw[List.getElem?_map]at hv'
   cases q:ls[i]? with
   | none=>rw[q]at hv';cases hv'
   | some m=>
    rw[q]at hv'
    cases hv'
    obtain⟨t,rfl⟩:=rv
    exact⟨t,by rw[List.getD_eq_getElem?_getD,q];rfl⟩
theorem ZeI {prog:Program}{w:World}{s:Shared}{l:List Nat}{t:Tok}:Walked prog w (.str ⟨l.toArray⟩ t) s "str" l.length (fun i=>[l.getD i 0]) where
 ty:=fun s1 _=>typeIs_str s1 _ _
 go:=fun A s1 Q E hh k h=>by
  have hlen:(⟨l.toArray⟩:Str).cps.size=l.length:=by show l.toArray.size=_;simp
  have item:∀(i:Nat) (v:Value),(∃c u,(⟨l.toArray⟩:Str).cps[i]?=some c∧v=.str ⟨#[c]⟩ u)→∃t,v=.str ⟨[l.getD i 0].toArray⟩ t:=by
   rintro i v ⟨c,u,e,rfl⟩
   have e':l[i]?=some c:=by simpa using e
   exact⟨u,by rw[List.getD_eq_getElem?_getD,e'];rfl⟩
  refine wpAny_pyIter_str fun o St W st=>?_
  rw[hlen]at W
  refine h _ _ _ _ _ _ W st (fun b hb=>.inr ?_) (fun b hb=>?_) (fun b o e=>Heap.get?_push_of_some _ e) (fun i v ⟨c,u,e,e2⟩=>item i v ⟨c,u,e,e2⟩)
  ·have z:b=s1.heap.objs.size:=by simpa using hb
   exact Nat.le_of_eq z.symm
  ·have z:b=s1.heap.objs.size:=by simpa using hb
   exact Nat.le_of_eq z.symm
section
variable {prog:Program}{w:World}{A:Around}{E:Value→Shared→Prop}{s:Shared}
abbrev Zed (led:Bool):Obj:={ cls:=.type "set",dict:=none,data:=.set #[] 0 (.fresh 0 0 led) }
theorem ZgC {h:Heap}{a:Addr}{led:Bool}(ho:h.get? a=some (Zed led)):TxSet prog w h a [] led:=
 ⟨_,#[],0,_,[],ho,⟨rfl,rfl,rfl⟩,rfl,fun e he=>by simp at he,rfl,rfl,fun _=>rfl,.refl _,.nil,by show 0<4096;decide⟩
def ZaX (w:World):Bool:=w.params.followText "set-order"
theorem Zjo (a:Value){Q₁:Value→Shared→Prop}(h:Q₁ (.ref s.heap.objs.size) { s with heap:=s.heap.push (Zed (!ZaX w)) }):
  codeAny (model prog w) A (.call (.builtin "set.__new__") ⟨[.type "set",a],[]⟩) (wants Q₁ E) s:=by
 refine codeAny_of_tree ?_
 show wpAny _ A.in1 (checkBuiltinCall "set.__new__" ⟨[.type "set",a],[]⟩ >>= fun _=>again (.builtin "set.__new__" ⟨[.type "set",a],[]⟩)) _ _ s
 refine wpAny_bind (wpAny_of_eq (F.newCall_set_1 a) (wpAny_pure ⟨plainId_quiet F.plain_set_new _,codeAny_builtin F.entry_set_new ?_⟩))
 rw[Around.under_plainId F.plain_set_new _]
 unfold Builtin.«set.__new__» Builtin.Frozenset.newClass
 have hsub:=sub_set_self
 obtain⟨hp,g,d,tk,os⟩:=s
 dsimp only
 wp_walk
 refine wpAny_askSetting (wpAny_pure ?_)
 dsimp only
 simp only[newObj]
 exact wpAny_bind (wpAny_alloc (wpAny_pure (wpAny_pure h)))
set_option maxHeartbeats 3200000 in
theorem Zfq {x:Value} {T:String} {n:Nat} {val:Nat→List Nat} {Q:Value→Shared→Prop} (hh:A.handled=none) (W:Walked prog w x s T n val) (t1:isSubtype (.type T) (.type "set")=pure false) (t2:isSubtype (.type T) (.type "frozenset")=pure false)
  (t3:(Value.type T == Value.type "dict")=false) (hb:n+1<scanBound)
  (h:∀(h':Heap) (tk:Nat),TxSet prog w h' s.heap.objs.size (dd val n) (!ZaX w)→(∀b o,s.heap.get? b=some o→h'.get? b=some o)→s.toks≤tk→Q (.ref s.heap.objs.size) { s with heap:=h',toks:=tk }):
  wpAny (model prog w) A (call (.type "set") [x]) Q E s:=by
 obtain⟨c,tl,hmro⟩:=F.called_set.mro
 have hmade:=F.called_set.made
 have hsub:=F.called_set.sub
 refine wpAny_call (codeAny_of_tree ?_)
 show wpAny _ _ (callAny (.type "set") _) _ _ _
 refine wpAny_pure ⟨Code.quiet_builtin _ (by decide +kernel),codeAny_builtin F.entry_type_call ?_⟩
 rw[Around.under_plain (weight_type_call_type "set" [x] []) rfl]
 have h1:=F.called_set.notType
 have h2:=F.called_set.canCreate
 have hct:=F.typeCall_set_1 x
 repeat (any_goals (first | assumption | wp_step))
 refine codeAny_mono (Zjo x (E:=E) (Q₁:=fun ob s₁=>ob=.ref s.heap.objs.size∧s₁={ s with heap:=s.heap.push (Zed (!ZaX w)) }) ⟨rfl,rfl⟩) fun r s₁ hr=>?_
 cases r with
 | error e=>exact hr
 | ok fl=>
  cases fl with
  | ret ob=>
   obtain⟨rfl,rfl⟩:=hr
   have hS:(s.heap.push (Zed (!ZaX w))).get? s.heap.objs.size=some (Zed (!ZaX w)):=Heap.get?_push_size _ rfl
   have hT:Shared.TypeIs { s with heap:=s.heap.push (Zed (!ZaX w)) } (.ref s.heap.objs.size) "set":=⟨_,hS,rfl⟩
   have hli:=F.called_set.init.lookup
   have hbi:=F.called_set.init.bind (.ref s.heap.objs.size)
   have keep1:∀b o,s.heap.get? b=some o→(s.heap.push (Zed (!ZaX w))).get? b=some o:=fun b o e=>Heap.get?_push_of_some _ e
   repeat (any_goals (first | assumption | wp_step))
   refine codeAny_mono (codeAny_call_builtin (R:=wants (fun r s₂=>r=.none∧∃h' tk,s₂={ s with heap:=h',toks:=tk }∧TxSet prog w h' s.heap.objs.size (dd val n) (!ZaX w)∧(∀b o,s.heap.get? b=some o→h'.get? b=some o)∧s.toks≤tk) E)
    F.called_set.init.plain F.entry_set_init (check_set_init_1 hT ?_)) fun r₂ s₂ hr₂=>?_
   ·have hTx:=W.ty { s with heap:=s.heap.push (Zed (!ZaX w)) } keep1
    unfold Builtin.«set.__init__» noKeywords Builtin.Frozenset.updateFrom
    generalize hPI:pyIter=PI
    wp_walk
    subst hPI
    refine W.go _ _ _ _ (by simp[hh]) keep1 fun h2 I fp wr Pi St Wk st f1 f2 k2 hval=>?_
    refine wpAny_bind (wpAny_runValue ?_)
    have hSf:s.heap.objs.size∉fp:=fun z=>by
     rcases f1 _ z with q | q
     ·exact Nat.lt_irrefl _ q
     ·rw[Heap.size_push]at q;exact absurd q (Nat.not_succ_le_self _)
    refine ZhW ((Wk A.in1.in1.in1 (by simp[hh])).toS) s.heap.objs.size hSf val hval hb (n-0) 0 _ (by omega) (Nat.zero_le _) st (ZgC (k2 _ _ hS)) fun s' hm hS'=>?_
    obtain⟨h',g',d',tk',os'⟩:=s'
    have eg:g'=s.gens:=hm.gens
    have ed:d'=s.drawn:=hm.drawn
    have eo:os'=s.os:=hm.os
    have et:s.toks≤tk':=hm.toks
    subst eg ed eo
    refine wpAny_pure ?_
    refine wpAny_pure ⟨rfl,h',tk',rfl,hS',fun b o e=>?_,et⟩
    have hlt:=Heap.lt_size e
    refine hm.heap b o (fun z=>?_) (k2 b o (keep1 b o e))
    rcases List.mem_cons.mp z with q | q
    ·rw[q]at hlt;exact Nat.lt_irrefl _ hlt
    ·have q2:=f2 b q
     rw[Heap.size_push]at q2
     exact absurd (Nat.lt_of_lt_of_le hlt (Nat.le_of_succ_le q2)) (Nat.lt_irrefl _)
   ·cases r₂ with
    | error e=>exact hr₂
    | ok fl₂=>
     cases fl₂ with
     | ret r=>
      obtain⟨rfl,h',tk,rfl,hS',hk',htk⟩:=hr₂
      repeat (any_goals (first | assumption | wp_step))
      exact h _ _ hS' hk' htk
     | _=>exact hr₂.elim
  | _=>exact hr.elim
end
theorem Zb7 {α:Type}:∀(xs:List α) (i:Nat) (h:i<xs.length),(xs[i]::xs.eraseIdx i).Perm xs
 | x::xs,0,_=>.refl _
 | x::xs,i+1,h=>by
  have hi:i<xs.length:=by simpa using h
  have ih:=Zb7 xs i hi
  show (xs[i]::x::xs.eraseIdx i).Perm (x::xs)
  exact(List.Perm.swap _ _ _).trans (ih.cons x)
section
variable {M:Model}{A:Around}{E:Value→Shared→Prop}{s:Shared}
theorem wp_choose' {src:Source}{n:Nat}{Q:Nat→Shared→Prop}(hn:n≠0)(h:∀i d,i<n→Q i { s with drawn:=d }):wpAny M A (choose src n) Q E s:=fun Γ p hΓ=>by
 unfold choose
 rw[Sem.wp_choose]
 exact⟨hn,h _ _ (Nat.mod_lt _ (Nat.pos_of_ne_zero hn))⟩
theorem Zb9 {α:Type}:∀(n:Nat) (xs:List α) (s:Shared) (Q:List α→Shared→Prop),xs.length=n→(∀ys d,ys.Perm xs→Q ys { s with drawn:=d })→wpAny M A (drawOrder n xs) Q E s
 | 0,xs,s,Q,hl,h=>by
  have e:xs=[]:=List.eq_nil_of_length_eq_zero hl
  subst e
  unfold drawOrder
  exact wpAny_pure (h [] s.drawn (.refl _))
 | n+1,[],s,Q,hl,h=>by cases hl
 | n+1,x::xs,s,Q,hl,h=>by
  unfold drawOrder
  refine wpAny_bind (wp_choose' (by simp) fun i d hi=>?_)
  have e:(x::xs)[i]?=some (x::xs)[i]:=List.getElem?_eq_getElem hi
  rw[e]
  dsimp only
  refine wpAny_bind (Zb9 n ((x::xs).eraseIdx i) _ _ ?_ fun ys d' p=>wpAny_pure ?_)
  ·rw[List.length_eraseIdx_of_lt hi,hl];rfl
  ·refine h _ d' ((List.Perm.cons _ p).trans ?_)
   exact Zb7 _ _ hi
end
theorem ZcX:entryFor table "set.__iter__"=some Builtin.«frozenset.__iter__»:=entryFor_alias (id':="frozenset.__iter__") (by kernel_rfl) rfl (by decide +kernel) (by kernel_rfl)
theorem Zau:Slot "set_iterator" "__next__" "set_iterator.__next__":=
 .of (owner:="set_iterator") (n:="__next__") (by rw[typeLookup_type,builtinLookup_eq_fast];kernel_rfl) (by decide +kernel) (by decide +kernel) (by decide +kernel)
  (by first | exact .inl (by decide +kernel) | exact .inr (by decide +kernel)) (by rw[isSubtype_type];kernel_rfl)
theorem Zbb:entryFor table "set_iterator.__next__"=some Builtin.«set_iterator.__next__»:=entryFor_of_fast (by kernel_rfl)
theorem Zbl (a:Value):argsOk "set_iterator.__next__" ⟨[a],[]⟩:=by unfold argsOk;kernel_rfl
section
variable {prog:Program}{w:World}{A:Around}{E:Value→Shared→Prop}{s:Shared}
def SetIt (h:Heap)(I S:Addr)(first:Value)(i n ep:Nat):Prop:=∃o,h.get? I=some o∧o.cls=.type "set_iterator"∧o.data=.fields #[first,.int i 0,.ref S,.int n 0,.int ep 0]
theorem Zj0 {t:SetTable}{n:Nat}(hf:t.fits n=true):(t.place.size != n || decide (t.fill>t.mask))=false:=by
 simp only[SetTable.fits,Bool.and_eq_true,beq_iff_eq,decide_eq_true_eq]at hf
 simp[hf.1,Nat.not_lt.mpr hf.2]
theorem Zij {S:Addr}{o:Obj}{es:Array (Int×Value)}{ep:Nat}{t:SetTable}{Q:Value→Shared→Prop}(ho:s.heap.get? S=some o)(hex:o.ExactSet)(hd:o.data=.set es ep t)(hf:t.fits es.size=true)(hz:es.size≤sizeLine)
  (h0:(ZaX w=true∨(t.plain=true∨es.size≤1))→Q (.ref s.heap.objs.size) { s with heap:=s.heap.push { cls:=.type "set_iterator",data:=.fields #[.int 0 0,.int 0 0,.ref S,.int es.size 0,.int ep 0] } })
  (h1:∀(ps:List Nat) (d:Drawn),ps.Perm (List.range es.size)→Q (.ref (s.heap.objs.size+1)) { s with drawn:=d,heap:=(Heap.push s.heap { cls:=.type "tuple",data:=.seq (ps.map (fun i=>Value.int ((i:Nat):Int) 0)).toArray }).push { cls:=.type "set_iterator",data:=.fields #[.ref s.heap.objs.size,.int 0 0,.ref S,.int es.size 0,.int ep 0] } }):wpAny (model prog w) A (pyIter (.ref S)) Q E s:=by
 have hT:s.TypeIs (.ref S) "set":=⟨o,ho,hex.1⟩
 refine wpAny_pyIter_slot hT F.slot_set_iter (wpAny_call_entry F.slot_set_iter hT ZcX ?_ (F.args_set_iter_1 _))
 unfold Builtin.«frozenset.__iter__» Builtin.Frozenset.sizeOf setDrawn setsByText
 wp_walk
 rw[hd]
 dsimp only
 rw[Zj0 hf]
 rw[if_neg Bool.false_ne_true]
 refine wpAny_pure (wpAny_pure (wpAny_pure ?_))
 refine wpAny_bind (wpAny_bind (wpAny_setState_of ho hd hf ?_))
 dsimp only
 refine wpAny_bind (wpAny_bind (wpAny_askSetting (wpAny_pure (wpAny_pure ?_))))
 show wpAny _ _ (if (!ZaX w&&(!t.plain&&decide (es.size>1)))=true then _ else _) _ _ _
 split
 ·refine wpAny_bind (Zb9 es.size (List.range es.size) _ _ (by simp) fun ps d p=>?_)
  refine wpAny_bind ?_
  simp only[newTuple]
  refine wpAny_newObj_type ?_ (by show (List.map _ ps).toArray.size≤sizeLine;rw[List.size_toArray,List.length_map,p.length_eq,List.length_range];exact hz)
  refine wpAny_bind (wpAny_setEpoch_of (Heap.get?_push_of_some _ ho) hd hf (wpAny_bind (wpAny_newObj_type (wpAny_pure ⟨_,rfl,"set_iterator",_,⟨_,Heap.get?_push_size _ rfl,rfl⟩,Zau.lookup,?_⟩))))
  have q:=h1 ps d p
  rw[Heap.size_push]
  exact q
 ·rename_i hb
  refine wpAny_bind (wpAny_pure ?_)
  refine wpAny_bind (wpAny_setEpoch_of ho hd hf (wpAny_bind (wpAny_newObj_type (wpAny_pure ⟨_,rfl,"set_iterator",_,⟨_,Heap.get?_push_size _ rfl,rfl⟩,Zau.lookup,h0 ?_⟩))))
  cases h:ZaX w with
  | true=>exact .inl rfl
  | false=>
   refine .inr ?_
   cases h':t.plain with
   | true=>exact .inl rfl
   | false=>
    rw[h,h']at hb
    simp at hb
    exact .inr hb
end
section
variable {prog:Program}{w:World}{A:Around}{E:Value→Shared→Prop}{s:Shared}{I S:Addr}{o:Obj}{es:Array (Int×Value)}{ep i n:Nat}{t:SetTable}
theorem SetIt.typ {first:Value}(h:SetIt s.heap I S first i n ep):s.TypeIs (.ref I) "set_iterator":=let ⟨o,h1,h2,_⟩:=h;⟨o,h1,h2⟩
abbrev ZlL (I S:Addr)(slot i ep:Nat):Sem PySem.Fin:=do
 match ←setNext S slot i ep with
 | some (x,next)=>do
  setField (.ref I) 0 (rawInt (next:Nat))
  setField (.ref I) 1 (rawInt ((i:Int)+1))
  ret x
 | none=>do
  setField (.ref I) 2 Value.none
  raiseNew (←newExc (Value.type "StopIteration") [])
abbrev Zj8 (I S:Addr)(first:Value)(i ep:Nat):Sem PySem.Fin:=do
 match ←seqItems? first with
 | some places=>match places[i]? with
  | some (.int place _)=>do
   let x ←setNextDrawn S place.toNat ep
   setField (.ref I) 1 (rawInt ((i:Int)+1))
   ret x
  | some _=>unsupported "internal:set_iterator"
  | none=>do
   setField (.ref I) 0 (rawInt 0)
   setField (.ref I) 2 Value.none
   raiseNew (←newExc (Value.type "StopIteration") [])
 | _=>unsupported "internal:set_iterator"
abbrev NxQ (prog:Program)(w:World)(A:Around)(Q:Option Value→Shared→Prop)(E:Value→Shared→Prop)(fin:PySem.Fin)(s':Shared):Prop:=∃v,fin=Fin.done (Flow.ret v)∧Q (some v) s'
abbrev NxE (prog:Program)(w:World)(A:Around)(Q:Option Value→Shared→Prop)(E:Value→Shared→Prop)(e:Value)(s':Shared):Prop:=
 wpAny (model prog w) A (do let b ←isInstance e (Value.type "StopIteration");if b=true then pure none else throw e) Q E s'
theorem ZbS {slot:Nat}{Q:Option Value→Shared→Prop}(hi:SetIt s.heap I S (.int (slot:Nat) 0) i es.size ep)(ho:s.heap.get? S=some o)(hd:o.data=.set es ep t)(hf:t.fits es.size=true)
  (h:wpAny (model prog w) A.in1 (ZlL I S slot i ep) (NxQ prog w A Q E) (NxE prog w A Q E) s):wpAny (model prog w) A (pyNext (.ref I)) Q E s:=by
 obtain⟨oi,hoi,hci,hdi⟩:=id hi
 unfold pyNext
 refine wpAny_bind (wpAny_attempt (wpAny_callSpecial?_slot (name:=Str.ofString "__next__") hi.typ Zau (wpAny_call_entry Zau hi.typ Zbb ?_ (Zbl _))))
 unfold Builtin.«set_iterator.__next__»
 wp_walk
 rw[hdi]
 dsimp only
 refine wpAny_pure ?_
 dsimp only
 refine wpAny_bind (wpAny_setEntries_of ho hd hf ?_)
 (try dsimp only)
 rw[if_neg (by simp)]
 refine wpAny_mono h (fun fin s' q=>?_) fun e s' q=>q
 obtain⟨v,rfl,q⟩:=q
 exact⟨v,rfl,wpAny_pure q⟩
theorem Zc5 {tp:Addr}{Q:Option Value→Shared→Prop}(hi:SetIt s.heap I S (.ref tp) i es.size ep)(ho:s.heap.get? S=some o)(hd:o.data=.set es ep t)(hf:t.fits es.size=true)
  (h:wpAny (model prog w) A.in1 (Zj8 I S (.ref tp) i ep) (NxQ prog w A Q E) (NxE prog w A Q E) s):wpAny (model prog w) A (pyNext (.ref I)) Q E s:=by
 obtain⟨oi,hoi,hci,hdi⟩:=id hi
 unfold pyNext
 refine wpAny_bind (wpAny_attempt (wpAny_callSpecial?_slot (name:=Str.ofString "__next__") hi.typ Zau (wpAny_call_entry Zau hi.typ Zbb ?_ (Zbl _))))
 unfold Builtin.«set_iterator.__next__»
 wp_walk
 rw[hdi]
 dsimp only
 refine wpAny_pure ?_
 dsimp only
 refine wpAny_bind (wpAny_setEntries_of ho hd hf ?_)
 (try dsimp only)
 rw[if_neg (by simp)]
 refine wpAny_mono h (fun fin s' q=>?_) fun e s' q=>q
 obtain⟨v,rfl,q⟩:=q
 exact⟨v,rfl,wpAny_pure q⟩
theorem ZeO {Q:Option Value→Shared→Prop}(hh:A.handled=none)(hQ:∀h',(∀b o,s.heap.get? b=some o→h'.get? b=some o)→Q none { s with heap:=h' }):
  wpAny (model prog w) A.in1 (do raiseNew (←newExc (Value.type "StopIteration") [])) (NxQ prog w A Q E) (NxE prog w A Q E) s:=by
 refine wpAny_bind ?_
 simp only[newExc,newTuple]
 refine wpAny_bind (wpAny_newObj_type ?_ (by size_fits))
 refine wpAny_bind (m:=firstArgMember _ _) (wpAny_of_eq (a:=Value.none) (by first | rfl | (simp only[firstArgMember];rfl)) ?_)
 refine wpAny_newObj_type ?_ (by size_fits)
 simp only[raiseNew]
 refine wpAny_bind (wpAny_handled ?_)
 rw[show A.in1.handled=none from hh]
 refine wpAny_bind (wpAny_pure (wpAny_throw ?_))
 refine wpAny_bind (wpAny_isInstance (T:="StopIteration") (b:=true) ⟨_,Heap.get?_push_size _ rfl,rfl⟩ isSubtype_stop ?_)
 exact wpAny_pure (hQ _ fun b o e=>Heap.get?_push_of_some _ (Heap.get?_push_of_some _ e))
theorem Zc9 {h:Heap} {v:Value} {k:Nat} {oi:Obj} {vs:Array Value} (hoi:h.get? I=some oi) (hci:oi.cls=.type "set_iterator") (hdi:oi.data=.fields vs):
  ∃o',(h.update I (Obj.mapFields (·.setIfInBounds k v))).get? I=some o'∧o'.cls=.type "set_iterator"∧o'.data=.fields (vs.setIfInBounds k v):=
 ⟨_,Heap.get?_update_self _ hoi (Obj.isFreed_of_fields (Obj.data_mapFields hdi _)),(Obj.cls_mapFields ..).trans hci,Obj.data_mapFields hdi _⟩
theorem Zcm {slot:Nat}{Q:Option (Value×Nat)→Shared→Prop}(ho:s.heap.get? S=some o)(hd:o.data=.set es ep t)(hf:t.fits es.size=true)(hb:ZaX w=true)
  (h:Q (((pickOrder (w.params.setOrder S ep) es)[i]?).map fun e=>(e.2,slot)) s):wpAny (model prog w) A (setNext S slot i ep) Q E s:=by
 unfold setNext
 refine wpAny_bind (wpAny_setState_of ho hd hf ?_)
 dsimp only
 unfold setsByText
 refine wpAny_bind (wpAny_bind (wpAny_askSetting (wpAny_pure ?_)))
 show wpAny _ _ (if ZaX w=true then _ else _) _ _ _
 rw[hb,if_pos rfl,if_neg (by simp)]
 unfold setWalk
 refine wpAny_bind (wpAny_bind (wpAny_setState_of ho hd hf ?_))
 dsimp only
 unfold setsByText
 refine wpAny_bind (wpAny_bind (wpAny_askSetting (wpAny_pure ?_)))
 show wpAny _ _ (if ZaX w=true then _ else _) _ _ _
 rw[hb,if_pos rfl]
 exact wpAny_bind (wpAny_askSetting (wpAny_pure (wpAny_pure h)))
theorem Zcn {slot:Nat}{Q:Option (Value×Nat)→Shared→Prop}(ho:s.heap.get? S=some o)(hd:o.data=.set es ep t)(hf:t.fits es.size=true)(hb:ZaX w=false)(hl:t.led=true)(h1:es.size≤1)
  (h:Q (match es[SetTable.below t.place slot]?,t.place[SetTable.below t.place slot]? with | some (_,x),some j=>some (x,j+1) | _,_=>none) s):wpAny (model prog w) A (setNext S slot i ep) Q E s:=by
 unfold setNext
 refine wpAny_bind (wpAny_setState_of ho hd hf ?_)
 dsimp only
 unfold setsByText
 refine wpAny_bind (wpAny_bind (wpAny_askSetting (wpAny_pure ?_)))
 show wpAny _ _ (if ZaX w=true then _ else (if (!t.plain&&decide (es.size>1))=true then _ else _)) _ _ _
 have hn:¬es.size>1:=by omega
 rw[hb,if_neg Bool.false_ne_true,decide_eq_false hn,Bool.and_false,if_neg Bool.false_ne_true]
 show wpAny _ _ ((if (!t.led&&!es.isEmpty)=true then (do let _ ←(unsupported "set:maker-not-led":Sem Unit);pure ()) else pure ()) >>= fun _=>_) _ _ _
 rw[hl,Bool.not_true,Bool.false_and,if_neg Bool.false_ne_true]
 exact wpAny_bind (wpAny_pure (wpAny_pure h))
end
theorem Zd6 {α:Type}{next:Nat→Nat}:∀(fuel k:Nat) (left:List α) (out:Array α),left.length=fuel→(pickOrder.go next fuel k left out).toList.Perm (out.toList++left)
 | 0,k,left,out,h=>by
  have e:left=[]:=List.eq_nil_of_length_eq_zero h
  subst e
  unfold pickOrder.go
  simp
 | fuel+1,k,left,out,h=>by
  have hlt:next k % left.length<left.length:=Nat.mod_lt _ (by omega)
  unfold pickOrder.go
  rw[List.getElem?_eq_getElem hlt]
  dsimp only
  refine(Zd6 fuel (k+1) _ _ (by rw[List.length_eraseIdx_of_lt hlt,h];rfl)).trans ?_
  rw[Array.toList_push,List.append_assoc]
  exact(Zb7 left _ hlt).append_left _
theorem Zbd {α:Type}{next:Nat→Nat}{xs:Array α}:(pickOrder next xs).toList.Perm xs.toList:=by
 unfold pickOrder
 have:=Zd6 (next:=next) xs.size 0 xs.toList #[] (by simp)
 simpa using this
theorem Zbi:Slot "set_iterator" "__iter__" "set_iterator.__iter__":=
 .of (owner:="set_iterator") (n:="__iter__") (by rw[typeLookup_type,builtinLookup_eq_fast];kernel_rfl) (by decide +kernel) (by decide +kernel) (by decide +kernel) (by first | exact .inl (by decide +kernel) | exact .inr (by decide +kernel)) (by rw[isSubtype_type];kernel_rfl)
theorem Zb0:entryFor table "set_iterator.__iter__"=some Builtin.«dict_keyiterator.__iter__»:=entryFor_alias (id':="dict_keyiterator.__iter__") (by kernel_rfl) rfl (by decide +kernel) (by kernel_rfl)
theorem Zb8 (a:Value):argsOk "set_iterator.__iter__" ⟨[a],[]⟩:=by unfold argsOk;kernel_rfl
section
variable {prog:Program}{w:World}{A:Around}{E:Value→Shared→Prop}{s:Shared}{I S:Addr}{o:Obj}{es:Array (Int×Value)}{ep i n:Nat}{t:SetTable}
theorem ZcF {first:Value}{Q:Value→Shared→Prop}(hi:SetIt s.heap I S first i n ep)(h:Q (.ref I) s):wpAny (model prog w) A (pyIter (.ref I)) Q E s:=by
 refine wpAny_pyIter_slot hi.typ Zbi (wpAny_call_entry Zbi hi.typ Zb0 ?_ (Zb8 _))
 show wpAny _ _ (ret (.ref I)) _ _ s
 exact wpAny_pure ⟨_,rfl,"set_iterator",_,hi.typ,Zau.lookup,h⟩
theorem ZbA {h h':Heap}{o:Obj}(sb:Heap.SameBut I h h')(hne:S≠I)(ho:h.get? S=some o):h'.get? S=some o:=(sb.2 S hne).trans ho
theorem Zgx (hh:A.handled=none)(hne:S≠I)(hd:o.data=.set es ep t)(hf:t.fits es.size=true)(hb:ZaX w=true):
  Walks prog w A I [I,S] [I] es.size (fun i v=>(((pickOrder (w.params.setOrder S ep) es).toList).map (·.2))[i]?=some v) (fun i h=>SetIt h I S (.int ((0:Nat):Int) 0) i es.size ep∧h.get? S=some o) where
 sub:=fun b hb=>by simp at hb;simp[hb]
 frame:=fun i h h' ⟨⟨oi,h1,r⟩,h2⟩ hk=>⟨⟨oi,hk I (by simp) _ h1,r⟩,hk S (by simp) _ h2⟩
 item:=fun i s Q E hi ⟨st,ho⟩ hQ=>by
  have hl:(pickOrder (w.params.setOrder S ep) es).size=es.size:=by rw[←Array.length_toList,Zbd.length_eq,Array.length_toList]
  have he:(pickOrder (w.params.setOrder S ep) es)[i]?=some (pickOrder (w.params.setOrder S ep) es)[i]:=by simp[hl,hi]
  refine ZbS st ho hd hf (wpAny_bind (Zcm ho hd hf hb ?_))
  rw[he]
  dsimp only[Option.map_some]
  obtain⟨oi,g1,g2,g3⟩:=id st
  refine wpAny_bind (wpAny_setField g1 g3 (by simp) ?_)
  obtain⟨o1,k1,k2,k3⟩:=Zc9 (v:=rawInt ((0:Nat):Int)) (k:=0) g1 g2 g3
  refine wpAny_bind (wpAny_setField k1 k3 (by simp) ?_)
  obtain⟨o2,m1,m2,m3⟩:=Zc9 (v:=rawInt ((i:Int)+1)) (k:=1) k1 k2 k3
  have sb:=(Heap.SameBut.update s.heap I (Obj.mapFields (·.setIfInBounds 0 (rawInt ((0:Nat):Int))))).trans (Heap.SameBut.update _ I (Obj.mapFields (·.setIfInBounds 1 (rawInt ((i:Int)+1)))))
  refine wpAny_pure ⟨_,rfl,hQ _ _ s.toks ?_ ⟨⟨o2,m1,m2,?_⟩,ZbA sb hne ho⟩ fun b o hb e=>(sb.2 b (by simpa using hb)).trans e⟩
  ·rw[List.getElem?_map,Array.getElem?_toList,he];rfl
  ·rw[m3];simp[rawInt]
 done:=fun s Q E ⟨st,ho⟩ hQ=>by
  have hl:(pickOrder (w.params.setOrder S ep) es).size=es.size:=by rw[←Array.length_toList,Zbd.length_eq,Array.length_toList]
  have he:(pickOrder (w.params.setOrder S ep) es)[es.size]?=none:=by simp[hl]
  refine ZbS st ho hd hf (wpAny_bind (Zcm ho hd hf hb ?_))
  rw[he]
  dsimp only[Option.map_none]
  obtain⟨oi,g1,g2,g3⟩:=id st
  refine wpAny_bind (wpAny_setField g1 g3 (by simp) ?_)
  have sb:=Heap.SameBut.update s.heap I (Obj.mapFields (·.setIfInBounds 2 Value.none))
  exact ZeO (A:=A) hh fun h' k=>hQ h' s.toks fun b o hb e=>k b o ((sb.2 b (by simpa using hb)).trans e)
 self:=fun i s Q E ⟨st,_⟩ hQ=>ZcF st hQ
def Zb4 (t:SetTable)(i:Nat):Nat:=if i=0 then 0 else t.place.getD 0 0+1
theorem Zgw {xs:Array Nat}:SetTable.below xs 0=0:=by
 unfold SetTable.below
 have all:∀fuel hi,SetTable.below.go xs 0 fuel 0 hi=0:=by
  intro fuel
  induction fuel with
  | zero=>intro hi;unfold SetTable.below.go;rfl
  | succ f ih=>
   intro hi
   unfold SetTable.below.go
   split
   ·rw[if_neg (Nat.not_lt_zero _)];exact ih _
   ·rfl
 exact all _ _
theorem ZhK {j:Nat}:SetTable.below #[j] (j+1)=1:=by
 unfold SetTable.below
 show SetTable.below.go #[j] (j+1) 1 0 1=1
 unfold SetTable.below.go
 simp[SetTable.below.go]
theorem Zk0 {xs:Array Nat}(h:xs.size=1):∃j,xs=#[j]:=by
 obtain⟨l⟩:=xs
 match l,h with
 | [j],_=>exact⟨j,rfl⟩
theorem Zgy (hh:A.handled=none)(hne:S≠I)(hd:o.data=.set es ep t)(hf:t.fits es.size=true)(hb:ZaX w=false)(hl:t.led=true)(h1:es.size≤1):
  Walks prog w A I [I,S] [I] es.size (fun i v=>(es.toList.map (·.2))[i]?=some v) (fun i h=>SetIt h I S (.int ((Zb4 t i:Nat):Int) 0) i es.size ep∧h.get? S=some o) where
 sub:=fun b hb=>by simp at hb;simp[hb]
 frame:=fun i h h' ⟨⟨oi,h1,r⟩,h2⟩ hk=>⟨⟨oi,hk I (by simp) _ h1,r⟩,hk S (by simp) _ h2⟩
 item:=fun i s Q E hi ⟨st,ho⟩ hQ=>by
  have i0:i=0:=by omega
  subst i0
  have ps:t.place.size=es.size:=by
   have:=hf
   simp only[SetTable.fits,Bool.and_eq_true,beq_iff_eq]at this
   exact this.1
  have he:es[0]?=some es[0]:=by simp[hi]
  have hp:t.place[0]?=some (t.place.getD 0 0):=by
   have:0<t.place.size:=by omega
   simp[this]
  refine ZbS st ho hd hf (wpAny_bind (Zcn ho hd hf hb hl h1 ?_))
  rw[show Zb4 t 0=0 from rfl,Zgw,he,hp]
  dsimp only
  obtain⟨oi,g1,g2,g3⟩:=id st
  refine wpAny_bind (wpAny_setField g1 g3 (by simp) ?_)
  obtain⟨o1,k1,k2,k3⟩:=Zc9 (v:=rawInt ((t.place.getD 0 0+1:Nat):Int)) (k:=0) g1 g2 g3
  refine wpAny_bind (wpAny_setField k1 k3 (by simp) ?_)
  obtain⟨o2,m1,m2,m3⟩:=Zc9 (v:=rawInt (((0:Nat):Int)+1)) (k:=1) k1 k2 k3
  have sb:=(Heap.SameBut.update s.heap I (Obj.mapFields (·.setIfInBounds 0 (rawInt ((t.place.getD 0 0+1:Nat):Int))))).trans (Heap.SameBut.update _ I (Obj.mapFields (·.setIfInBounds 1 (rawInt (((0:Nat):Int)+1)))))
  refine wpAny_pure ⟨_,rfl,hQ _ _ s.toks ?_ ⟨⟨o2,m1,m2,?_⟩,ZbA sb hne ho⟩ fun b o hb e=>(sb.2 b (by simpa using hb)).trans e⟩
  ·rw[List.getElem?_map,Array.getElem?_toList,he];rfl
  ·rw[m3];simp[rawInt,Zb4]
 done:=fun s Q E ⟨st,ho⟩ hQ=>by
  have ps:t.place.size=es.size:=by
   have:=hf
   simp only[SetTable.fits,Bool.and_eq_true,beq_iff_eq]at this
   exact this.1
  have hn:es[SetTable.below t.place (Zb4 t es.size)]?=none:=by
   have hz:es.size=0∨es.size=1:=by omega
   rcases hz with z | z
   ·simp[z]
   ·have e1:∃j,t.place=#[j]:=by
     have:t.place.size=1:=by omega
     exact Zk0 this
    obtain⟨j,ej⟩:=e1
    have:Zb4 t es.size=j+1:=by unfold Zb4;rw[if_neg (by omega),ej];rfl
    rw[this,ej,ZhK]
    simp[z]
  refine ZbS st ho hd hf (wpAny_bind (Zcn ho hd hf hb hl h1 ?_))
  rw[hn]
  dsimp only
  obtain⟨oi,g1,g2,g3⟩:=id st
  refine wpAny_bind (wpAny_setField g1 g3 (by simp) ?_)
  have sb:=Heap.SameBut.update s.heap I (Obj.mapFields (·.setIfInBounds 2 Value.none))
  exact ZeO (A:=A) hh fun h' k=>hQ h' s.toks fun b o hb e=>k b o ((sb.2 b (by simpa using hb)).trans e)
 self:=fun i s Q E ⟨st,_⟩ hQ=>ZcF st hQ
theorem Zgf {p:Nat}{e:Int×Value}{Q:Value→Shared→Prop}(ho:s.heap.get? S=some o)(hd:o.data=.set es ep t)(hf:t.fits es.size=true)(he:es[p]?=some e)(h:Q e.2 s):wpAny (model prog w) A (setNextDrawn S p ep) Q E s:=by
 unfold setNextDrawn
 refine wpAny_bind (wpAny_setState_of ho hd hf ?_)
 dsimp only
 rw[if_neg (by simp),he]
 exact wpAny_pure h
theorem ZeH {tp:Addr}{ps:List Nat}(hh:A.handled=none)(hne:S≠I)(hnt:tp≠I)(hd:o.data=.set es ep t)(hf:t.fits es.size=true)(hp:ps.Perm (List.range es.size)):
  Walks prog w A I [I,S,tp] [I] es.size (fun i v=>(ps.map fun p=>(es.getD p (0,.none)).2)[i]?=some v) (fun i h=>SetIt h I S (.ref tp) i es.size ep∧h.get? S=some o∧h.get? tp=some { cls:=.type "tuple",data:=.seq (ps.map (fun i=>Value.int ((i:Nat):Int) 0)).toArray }) where
 sub:=fun b hb=>by simp at hb;simp[hb]
 frame:=fun i h h' ⟨⟨oi,h1,r⟩,h2,h3⟩ hk=>⟨⟨oi,hk I (by simp) _ h1,r⟩,hk S (by simp) _ h2,hk tp (by simp) _ h3⟩
 item:=fun i s Q E hi ⟨st,ho,ht⟩ hQ=>by
  have hl:ps.length=es.size:=by rw[hp.length_eq,List.length_range]
  have hi':i<ps.length:=by omega
  have hpi:ps[i]?=some ps[i]:=List.getElem?_eq_getElem hi'
  have hlt:ps[i]<es.size:=List.mem_range.mp (hp.mem_iff.mp (List.getElem_mem hi'))
  have he:es[ps[i]]?=some es[ps[i]]:=by simp[hlt]
  refine Zc5 st ho hd hf (wpAny_bind (wpAny_seqItems ht rfl ?_))
  dsimp only
  have hx:((ps.map (fun i=>Value.int ((i:Nat):Int) 0)).toArray)[i]?=some (Value.int ((ps[i]:Nat):Int) 0):=by simp[hpi]
  rw[hx]
  dsimp only
  refine wpAny_bind (Zgf ho hd hf he ?_)
  obtain⟨oi,g1,g2,g3⟩:=id st
  refine wpAny_bind (wpAny_setField g1 g3 (by simp) ?_)
  obtain⟨o2,m1,m2,m3⟩:=Zc9 (v:=rawInt ((i:Int)+1)) (k:=1) g1 g2 g3
  have sb:=Heap.SameBut.update s.heap I (Obj.mapFields (·.setIfInBounds 1 (rawInt ((i:Int)+1))))
  refine wpAny_pure ⟨_,rfl,hQ _ _ s.toks ?_ ⟨⟨o2,m1,m2,?_⟩,ZbA sb hne ho,ZbA sb hnt ht⟩ fun b o hb e=>(sb.2 b (by simpa using hb)).trans e⟩
  ·rw[List.getElem?_map,hpi];simp[hlt]
  ·rw[m3];simp[rawInt]
 done:=fun s Q E ⟨st,ho,ht⟩ hQ=>by
  have hl:ps.length=es.size:=by rw[hp.length_eq,List.length_range]
  refine Zc5 st ho hd hf (wpAny_bind (wpAny_seqItems ht rfl ?_))
  dsimp only
  have hx:((ps.map (fun i=>Value.int ((i:Nat):Int) 0)).toArray)[es.size]?=none:=by simp[hl]
  rw[hx]
  dsimp only
  obtain⟨oi,g1,g2,g3⟩:=id st
  refine wpAny_bind (wpAny_setField g1 g3 (by simp) ?_)
  obtain⟨o1,k1,k2,k3⟩:=Zc9 (v:=rawInt 0) (k:=0) g1 g2 g3
  refine wpAny_bind (wpAny_setField k1 k3 (by simp) ?_)
  have sb:=(Heap.SameBut.update s.heap I (Obj.mapFields (·.setIfInBounds 0 (rawInt 0)))).trans (Heap.SameBut.update _ I (Obj.mapFields (·.setIfInBounds 2 Value.none)))
  exact ZeO (A:=A) hh fun h' k=>hQ h' s.toks fun b o hb e=>k b o ((sb.2 b (by simpa using hb)).trans e)
 self:=fun i s Q E ⟨st,_⟩ hQ=>ZcF st hQ
end
theorem Zel:typeLookup (.type "set") "__len__"=pure (some (.builtin "set.__len__")):=by rw[typeLookup_type,builtinLookup_eq_fast];kernel_rfl
section
variable {prog:Program}{w:World}{A:Around}{E:Value→Shared→Prop}{s:Shared}
theorem ZfY {es:Array (Int×Value)}{ps:List Nat}(hp:ps.Perm (List.range es.size)):(ps.map fun p=>(es.getD p (0,.none)).2).Perm (es.toList.map (·.2)):=by
 have q:=hp.map (fun p=>(es.getD p (0,.none)).2)
 refine q.trans (.of_eq ?_)
 apply List.ext_getElem
 ·simp
 ·intro n h1 h2
  have hn:n<es.size:=by simpa using h2
  simp[hn]
theorem Zgm {S:Addr}{ls:List (List Nat)}{Q:Value→Shared→Prop}(hS:TxSet prog w s.heap S ls (!ZaX w))
  (h:∀(h2:Heap) (d:Drawn) (I:Addr) (fp:List Addr) (vs:List Value) (ms:List (List Nat)) (St:Nat→Heap→Prop),(∀A':Around,A'.handled=none→Walks prog w A' I fp [I] ls.length (fun i v=>vs[i]?=some v) St)→St 0 h2 →
   (∀b∈fp,b=S∨s.heap.objs.size≤b)→s.heap.objs.size≤I→(∀b o,s.heap.get? b=some o→h2.get? b=some o)→ms.Perm ls→Vals (ms.map tx) vs→Q (.ref I) { s with heap:=h2,drawn:=d }):
  wpAny (model prog w) A (pyIter (.ref S)) Q E s:=by
 obtain⟨o,es,ep,t,ms,ho,hex,hd,hel,hf,hled,hpl,hp,hv,hb⟩:=hS
 have hlen:es.size=ls.length:=by
  have q:=hv.length
  rw[List.length_map,List.length_map]at q
  rw[←Array.length_toList,←q,hp.length_eq]
 have hlt:=Heap.lt_size ho
 refine Zij ho hex hd hf (fits_of_scanBound hb) (fun hc=>?_) fun ps d pp=>?_
 ·have nI:S≠s.heap.objs.size:=Nat.ne_of_lt hlt
  have st:(s.heap.push ({ cls:=.type "set_iterator",data:=.fields #[.int 0 0,.int 0 0,.ref S,.int es.size 0,.int ep 0] }:Obj)).get? s.heap.objs.size=some { cls:=.type "set_iterator",data:=.fields #[.int 0 0,.int 0 0,.ref S,.int es.size 0,.int ep 0] }:=Heap.get?_push_size _ rfl
  have fp:∀b∈[s.heap.objs.size,S],b=S∨s.heap.objs.size≤b:=fun b hb=>by
   rcases List.mem_cons.mp hb with z | z
   ·exact .inr (Nat.le_of_eq z.symm)
   ·exact .inl (by simpa using z)
  cases hby:ZaX w with
  | true=>
   obtain⟨ms',p',r'⟩:=Zci ((Zbd (next:=w.params.setOrder S ep) (xs:=es)).map (·.2)) hv
   have W:∀A':Around,A'.handled=none→_:=fun A' hA=>Zgx (prog:=prog) (w:=w) (A:=A') (I:=s.heap.objs.size) (S:=S) (o:=o) hA nI hd hf hby
   rw[hlen]at W
   exact h _ s.drawn _ _ _ ms' _ W ⟨⟨_,st,rfl,by rw[hlen];rfl⟩,Heap.get?_push_of_some _ ho⟩ fp (Nat.le_refl _) (fun b o e=>Heap.get?_push_of_some _ e) (p'.trans hp) r'
  | false=>
   have h1:es.size≤1:=by
    rcases hc with z | z | z
    ·rw[hby]at z;cases z
    ·rw[hpl z];exact Nat.zero_le _
    ·exact z
   have hl:t.led=true:=by rw[hled,hby];rfl
   have W:∀A':Around,A'.handled=none→_:=fun A' hA=>Zgy (prog:=prog) (w:=w) (A:=A') (I:=s.heap.objs.size) (S:=S) (o:=o) hA nI hd hf hby hl h1
   rw[hlen]at W
   exact h _ s.drawn _ _ _ ms _ W ⟨⟨_,st,rfl,by rw[hlen];rfl⟩,Heap.get?_push_of_some _ ho⟩ fp (Nat.le_refl _) (fun b o e=>Heap.get?_push_of_some _ e) hp hv
 ·have nI:S≠s.heap.objs.size+1:=Nat.ne_of_lt (Nat.lt_succ_of_lt hlt)
  have nT:s.heap.objs.size≠s.heap.objs.size+1:=Nat.ne_of_lt (Nat.lt_succ_self _)
  obtain⟨ms',p',r'⟩:=Zci (ZfY pp) hv
  have W:∀A':Around,A'.handled=none→_:=fun A' hA=>ZeH (prog:=prog) (w:=w) (A:=A') (I:=s.heap.objs.size+1) (S:=S) (o:=o) (tp:=s.heap.objs.size) hA nI nT hd hf pp
  rw[hlen]at W
  refine h _ d _ _ _ ms' _ W ⟨⟨{ cls:=.type "set_iterator",data:=.fields #[.ref s.heap.objs.size,.int 0 0,.ref S,.int es.size 0,.int ep 0] },?_,rfl,by rw[hlen];rfl⟩,Heap.get?_push_of_some _ (Heap.get?_push_of_some _ ho),Heap.get?_push_of_some _ (Heap.get?_push_size _ rfl)⟩ ?_ (Nat.le_succ _) (fun b o e=>Heap.get?_push_of_some _ (Heap.get?_push_of_some _ e)) (p'.trans hp) r'
  ·rw[←Heap.size_push];exact Heap.get?_push_size _ rfl
  ·intro b hb
   rcases List.mem_cons.mp hb with z | z
   ·exact .inr (by rw[z];exact Nat.le_succ _)
   ·rcases List.mem_cons.mp z with z | z
    ·exact .inl z
    ·have z:b=s.heap.objs.size:=by simpa using z
     exact .inr (Nat.le_of_eq z.symm)
theorem Zfc {S:Addr}{ls:List (List Nat)}{Q:List Value→Shared→Prop}(hh:A.handled=none)(hS:TxSet prog w s.heap S ls (!ZaX w))(hn:ls.length≤sizeLine)
  (hQ:∀(s':Shared) (vs:List Value) (ms:List (List Nat)),(∀b o,s.heap.get? b=some o→s'.heap.get? b=some o)→s'.gens=s.gens→s'.os=s.os→ms.Perm ls→Vals (ms.map tx) vs→Q vs s'):wpAny (model prog w) A (collect (.ref S)) Q E s:=by
 unfold collect
 refine wpAny_bind (wpAny_runValue (codeAny_builtin F.entry_proto_collect ?_))
 rw[Around.under_plainId F.plain_proto_collect _]
 show wpAny _ A.in1 (newList [] >>= fun l=>again (.builtin "list.__iadd__" ⟨[l,.ref S],[]⟩)) _ _ s
 refine wpAny_bind (wpAny_newObj_type (wpAny_pure ⟨plainId_quiet F.plain_list_iadd _,codeAny_builtin F.entry_list_iadd ?_⟩))
 rw[Around.under_plainId F.plain_list_iadd _]
 generalize hH:s.heap.push { cls:=.type "list",data:=.seq ([]:List Value).toArray }=H
 have hHs:H.objs.size=s.heap.objs.size+1:=by rw[←hH,Heap.size_push]
 have hL:H.get? s.heap.objs.size=some { cls:=.type "list",data:=.seq ([]:List Value).toArray }:=hH▸Heap.get?_push_size _ rfl
 have k1:∀b o,s.heap.get? b=some o→H.get? b=some o:=fun b o e=>hH▸Heap.get?_push_of_some _ e
 have hS1:TxSet prog w H S ls (!ZaX w):=hS.keep fun o e=>k1 S o e
 have hT:Shared.TypeIs { s with heap:=H } (.ref S) "set":=hS1.typ (s:={ s with heap:=H })
 have nS:S≠s.heap.objs.size:=by
  obtain⟨o,_,_,_,_,ho,_⟩:=hS
  exact Nat.ne_of_lt (Heap.lt_size ho)
 show wpAny _ A.in1 (Builtin.List.listExtendWith (.ref s.heap.objs.size) (.ref S) (.ref s.heap.objs.size)) _ _ { s with heap:=H }
 unfold Builtin.List.listExtendWith
 refine wpAny_bind (wpAny_typeOf hT ?_)
 have h1:Builtin.List.listSameRef (.ref s.heap.objs.size) (.ref S)=false:=by simp[Builtin.List.listSameRef,Ne.symm nS]
 have h2:(Value.type "set" == Value.type "list")=false:=by decide
 have h3:(Value.type "set" == Value.type "tuple")=false:=by decide
 simp only[h1,h2,h3,Bool.or_false,Bool.false_eq_true,if_false]
 refine wpAny_bind (Zgm (s:={ s with heap:=H }) hS1 fun h2' d I fp vs ms St W st hfp hI k2 hp hv=>?_)
 have hT2:Shared.TypeIs { s with heap:=h2',drawn:=d } (.ref S) "set":=(hS1.keep fun o e=>k2 S o e).typ (s:={ s with heap:=h2',drawn:=d })
 refine wpAny_bind (wpAny_holding ?_)
 unfold Builtin.List.listLengthHint
 refine wpAny_bind (wpAny_specialOf hT2 Zel ?_)
 wp_delta
 refine wpAny_bind (wpAny_isInstance (T:="set") (v:=.ref S) (b:=true) hT2 (by rw[isSubtype_type];kernel_rfl) ?_)
 show wpAny _ A.in1 (typeOf (Value.ref S) >>= fun r=>_) _ _ _
 refine wpAny_bind (wpAny_typeOf hT2 ?_)
 refine wpAny_pure ?_
 rw[if_pos (by decide)]
 refine wpAny_bind (wpAny_rule ?_)
 have hL2:h2'.get? s.heap.objs.size=some { cls:=.type "list",data:=.seq ([]:List Value).toArray }:=k2 _ _ hL
 refine wpAny_bind ?_
 show wpAny _ A.in1 (updateSeq s.heap.objs.size (·.push .none) >>= fun _=>updateSeq s.heap.objs.size (·.pop)) _ _ _
 refine wpAny_bind (wpAny_updateSeq hL2 rfl ?_)
 have hL3:=Heap.get?_update_self (Obj.mapSeq (·.push Value.none)) hL2 rfl
 refine wpAny_updateSeq hL3 rfl ?_
 have hL4:=Heap.get?_update_self (Obj.mapSeq (·.pop)) hL3 rfl
 have oth:∀b o,b≠s.heap.objs.size→h2'.get? b=some o→((h2'.update s.heap.objs.size (Obj.mapSeq (·.push Value.none))).update s.heap.objs.size (Obj.mapSeq (·.pop))).get? b=some o:=
  fun b o hb e=>(Heap.get?_update_other _ _ (Ne.symm hb)).trans ((Heap.get?_update_other _ _ (Ne.symm hb)).trans e)
 have hle:s.heap.objs.size+1≤I:=by rw[←hHs];exact hI
 have hSf:s.heap.objs.size∉fp:=fun z=>by
  rcases hfp _ z with q | q
  ·exact nS q.symm
  ·have q':H.objs.size≤s.heap.objs.size:=q
   rw[hHs]at q';exact absurd q' (Nat.not_succ_le_self _)
 refine wpAny_pure ⟨plainId_quiet F.plain_extend_loop _,codeAny_extend_loopS (W A.in1 hh).toS hn _ hSf _ ls.length 0 _ _ _ rfl (Nat.zero_le _) ((W A.in1 hh).frame 0 h2' _ st fun b hb o e=>oth b o (fun z=>hSf (z▸hb)) e) hL4 (ItemsOf.nil _) fun s' acc' c' hm hS' hacc=>?_⟩
 show wpAny _ A (load s.heap.objs.size >>= fun r=>_) _ _ s'
 refine wpAny_bind (wpAny_load hS' ?_)
 have hvs:acc'.toList=vs:=by
  have hl:vs.length=ls.length:=by rw[←hv.length,List.length_map,hp.length_eq]
  apply List.ext_getElem?
  intro j
  rw[Array.getElem?_toList]
  by_cases hj:j<ls.length
  ·have hj':j<acc'.size:=by rw[hacc.1];exact hj
   have e:acc'[j]?=some acc'[j]:=by simp[hj']
   rw[e,hacc.2 j _ e]
  ·rw[Array.getElem?_eq_none (by rw[hacc.1];omega),List.getElem?_eq_none (by omega)]
 have done:=hQ s' vs ms (fun b o e=>by
  have hlt:=Heap.lt_size e
  refine hm.heap b o (fun z=>?_) (oth b o (Nat.ne_of_lt hlt) (k2 b o (k1 b o e)))
  rcases List.mem_cons.mp z with q | q
  ·rw[q]at hlt;exact Nat.lt_irrefl _ hlt
  ·have q:b=I:=by simpa using q
   rw[q]at hlt
   exact absurd hlt (Nat.not_lt.mpr (Nat.le_of_succ_le hle))) hm.gens hm.os hp hv
 rw[←hvs]at done
 exact wpAny_pure done
end
def leT (a b:List Nat):Bool:=!decide (b<a)
def Zbn (ls:List (List Nat)):List (List Nat):=ls.mergeSort leT
theorem Zbf {a b:List Nat}:leT a b=true↔a≤b:=by
 unfold leT
 rw[Bool.not_eq_true',decide_eq_false_iff_not]
 exact List.not_lt
theorem ZaK (ls:List (List Nat)):(Zbn ls).Perm ls:=List.mergeSort_perm _ _
theorem Zba (ls:List (List Nat)):(Zbn ls).Pairwise (fun a b=>leT a b=true):=
 List.pairwise_mergeSort (le:=leT) (fun a b c h1 h2=>Zbf.mpr (List.le_trans (Zbf.mp h1) (Zbf.mp h2))) (fun a b=>Bool.or_eq_true_iff.mpr ((List.le_total a b).imp Zbf.mpr Zbf.mpr)) ls
theorem Zbw {ms ls:List (List Nat)}(p:ms.Perm ls)(h:ms.Pairwise (fun a b=>leT a b=true)):ms=Zbn ls:=
 List.Perm.eq_of_pairwise (fun a b _ _ h1 h2=>List.le_antisymm (Zbf.mp h1) (Zbf.mp h2)) h (Zba ls) (p.trans (ZaK ls).symm)
theorem ZeQ {ms ls:List (List Nat)}(p:ms.Perm ls):Zbn ms=Zbn ls:=Zbw ((ZaK ms).trans p) (Zba ms)
theorem ZeN:∀ {us:List Value} {ss:List Str},StrsAre us ss→Vals ((ss.map fun x=>x.cps.toList).map tx) us
 | _,_,.nil=>.nil
 | _,_,.cons x t h=>.cons ⟨t,rfl⟩ (ZeN h)
theorem ZbM:∀ {ss:List Str},sortedS ss=true→(ss.map fun x=>x.cps.toList).Pairwise (fun a b=>leT a b=true):=by
 have ris:∀(p:Str) (l:List Str),risingS p l=true→((p::l).map fun x=>x.cps.toList).Pairwise (fun a b=>leT a b=true):=by
  intro p l
  induction l generalizing p with
  | nil=>intro _;simp
  | cons x r ih=>
   intro h
   have h':(!ltCps x.cps.toList p.cps.toList&&risingS x r)=true:=h
   rw[Bool.and_eq_true,ltCps_eq]at h'
   have q:=ih x h'.2
   rw[List.map_cons,List.pairwise_cons]
   refine⟨fun b hb=>?_,q⟩
   have hx:leT p.cps.toList x.cps.toList=true:=h'.1
   rw[List.map_cons]at hb q
   rcases List.mem_cons.mp hb with z | z
   ·rw[z];exact hx
   ·exact Zbf.mpr (List.le_trans (Zbf.mp hx) (Zbf.mp ((List.pairwise_cons.mp q).1 b z)))
 intro ss h
 cases ss with
 | nil=>simp
 | cons x r=>exact ris x r h
theorem ZdW {us:List Value}{ls:List (List Nat)}(r:Vals (ls.map tx) us):StrsAre us (ls.map fun l=>(⟨l.toArray⟩:Str)):=Zc2 r
theorem ZfW (ls:List (List Nat)):(ls.map fun l=>(⟨l.toArray⟩:Str)).map (fun x=>x.cps.toList)=ls:=by
 rw[List.map_map]
 conv=>rhs;rw[←List.map_id ls]
 apply List.map_congr_left
 intro l _
 simp
section
variable {prog:Program}{w:World}{A:Around}{E:Value→Shared→Prop}{s:Shared}
theorem ZgM {vs:List Value}{ms:List (List Nat)}{Q:Value→Shared→Prop}(hv:Vals (ms.map tx) vs)(h64:ms.length<64)
  (h:∀(h':Heap) (us:List Value) (e:Nat),(∀b o,s.heap.get? b=some o→h'.get? b=some o)→h'.get? s.heap.objs.size=some { cls:=.type "list",data:=.seq us.toArray e }→Vals ((Zbn ms).map tx) us→Q (.ref s.heap.objs.size) { s with heap:=h' }):
  wpAny (model prog w) A (do let l ←newList vs;let _ ←holding [l] (call (.builtin "list.sort") [l] []);ret l) (fun fin s'=>∃v,fin=Fin.done (Flow.ret v)∧Q v s') E s:=by
 have hS:=ZdW hv
 have hlen:vs.length<64:=by rw[←hv.length,List.length_map];exact h64
 refine wpAny_bind (wpAny_newList ?_ ?_)
 ·have hoL:(s.heap.push (seqObj "list" vs.toArray 0)).get? s.heap.objs.size=some (seqObj "list" vs.toArray 0):=Heap.get?_push_size _ rfl
  refine wpAny_bind (wpAny_holding (wpAny_call_entry slot_list_sort ⟨_,hoL,rfl⟩ entry_list_sort (list_sort_treeK strKind_oneLt hoL hS.keysOf (fun v₁ v₂ rest e=>keyKind_strs (by rw[←e];exact hS)) hlen fun st' a1 a2=>⟨_,rfl,?_⟩) (args_list_sort _)))
  obtain⟨ss',b1,b2,b3⟩:=sorted_out_str hS a1 a2
  obtain⟨e,he⟩:=sortedHeap_at (out:=(arrOf st').map (·.2)) hoL
  refine wpAny_pure ⟨_,rfl,h _ ((arrOf st').map (·.2)).toList e (fun b o q=>?_) ?_ ?_⟩
  ·have hlt:=Heap.lt_size q
   have hlt':b<(s.heap.push (seqObj "list" vs.toArray 0)).objs.size:=by rw[Heap.size_push];exact Nat.lt_succ_of_lt hlt
   exact(sortedHeap_old (Nat.ne_of_lt hlt) hlt').trans (Heap.get?_push_of_some _ q)
  ·have q:((arrOf st').map (·.2)).toList.toArray=(arrOf st').map (·.2):=Array.toArray_toList
   rw[q];exact he
  ·have p1:(ss'.map fun x=>x.cps.toList).Perm ms:=by
    have:=b2.map (fun x:Str=>x.cps.toList)
    rwa [ZfW]at this
   have e1:=Zbw p1 (ZbM b3)
   rw[←e1]
   exact ZeN b1
 ·exact Nat.le_trans (Nat.le_of_lt hlen) (by rw[sizeLine_eq];decide)
theorem Zf1 {S:Addr}{ls:List (List Nat)}{Q:Value→Shared→Prop}(hh:A.handled=none)(hS:TxSet prog w s.heap S ls (!ZaX w))(h64:ls.length<64)
  (h:∀(s':Shared) (a:Addr) (us:List Value) (e:Nat),s.heap.get? a=none→(∀b o,s.heap.get? b=some o→s'.heap.get? b=some o)→s'.gens=s.gens→s'.os=s.os→s'.heap.get? a=some { cls:=.type "list",data:=.seq us.toArray e }→Vals ((Zbn ls).map tx) us→Q (.ref a) s'):
  wpAny (model prog w) A (call (.builtin "sorted") [.ref S]) Q E s:=by
 refine Calls.call_function_entry kind_sorted plain_sorted entry_sorted (args_sorted1 _) ?_
 unfold Builtin.«sorted»
 refine wpAny_bind (m:=checkCount "sorted" 1 1 _) (wpAny_pure ?_)
 refine wpAny_bind (Zfc (by first | exact hh | simpa using hh) hS (Nat.le_trans (Nat.le_of_lt h64) (by rw[sizeLine_eq];decide)) fun s' vs ms k1 hg ho hp hv=>?_)
 have hl:ms.length<64:=by rw[hp.length_eq];exact h64
 refine ZgM hv hl fun h' us e k2 he r=>?_
 rw[ZeQ hp]at r
 exact h _ _ us e (by
  cases q:s.heap.get? s'.heap.objs.size with
  | none=>rfl
  | some o=>exact absurd (Heap.lt_size (k1 _ _ q)) (Nat.lt_irrefl _)) (fun b o q=>k2 b o (k1 b o q)) hg ho he r
end
section
variable {M:Model}{A:Around}{E:Value→Shared→Prop}{s:Shared}{B:Heap}{env:Env}{outer:List Env}{L e:Addr}{C:Value}{d:Option Addr}{Q:Unit→Shared→Prop}
end
end L2
namespace L2
open PySem PySem.Spec PyProof.Rows
open PySem.W (Frag findIn typeIn mroIn clsIn InstAt Looks)
def xr (a C:Addr)(d:Option Addr):HO:=.ext fun h=>∃(o:Obj) (vs:Array Value),h.get? a=some o∧o.cls=.ref C∧o.dict=d∧o.data=.fields vs
inductive XAny (H:Hp) (e C:Addr):List (Str×V)→Prop where
 | un {fs:List (Str×V)}:XAt H e C fs→XAny H e C fs
 | bare:H e=some (xr e C none)→XAny H e C []
 | full {d:Addr} {fs:List (Str×V)}:H e=some (xr e C (some d))→H d=some (xdO d fs)→d≠e→XAny H e C fs
section
variable {M:Model}{A:Around}{E:Value→Shared→Prop}{s:Shared}{env:Env}
end
def Zkp (K:Frag)(Ex:XK)(te:TE):TS:=fun _ σ H=>te σ H fun v H1=>∃e C d,v=.ref e∧H1 e=some (xo e C d)∧Xm K C∧Ex (.ref C) (some e) (upd H1 e (xr e C d))
section
variable {P:Program}{w:World}{K:Frag}{mg:Str→Option Value}{base:Heap}
end
abbrev TX:=St→Hp→VK→XK→Prop
abbrev TSx:=Ends→(St→XK)→St→Hp→Prop
section
variable {X:Cx}{CX:CXT}{k:Nat}{f C:Addr}{fd:FuncData}{ps:List Str}{sp:Sp}{dvs:List V}{ds:List Value}{x m:Str}{p pos apos:Pos}{e o:Expr}{es:List Expr}{ta:TE}{t:TA}
def ZkF (sp:Sp)(dvs:List V)(t:TA):TX:=fun σ H Q E=>t σ H fun vs H1=>sp (vs++dvs) H1 Q E
def ZmJ (i:Nat)(te:TX):TSx:=fun D Ex σ H=>te σ H (fun y H1=>D.nx (σ.set i (some y)) H1) (Ex σ)
def ZkJ (te:TX):TSx:=fun D Ex σ H=>te σ H (fun _ H1=>D.nx σ H1) (Ex σ)
def sIfx (c:TT)(t u:TSx):TSx:=fun D Ex σ H=>c σ H fun b H1=>if b=true then t D Ex σ H1 else u D Ex σ H1
end
section
variable {X:Cx}{pins:List (Addr×Obj)}{σ:St}{H H':Hp}{s s1:Shared}{e C:Addr}{d:Option Addr}{h1 h5 B:Heap}
end
def sux (X:Cx)(e:Addr):Cx:={ X with A:=X.A.mark (some (.ref e)),calm:=false,xe:=fun _ _=>False }
section
variable {X:Cx}{pins:List (Addr×Obj)}{σ:St}{H:Hp}{s:Shared}{e:Addr}
end
abbrev TH:=Addr→Addr→Ends→St→Hp→Prop
def unE (i:Nat)(D:Ends):Ends:={ nx:=fun σ H=>D.nx (σ.set i none) H,rt:=D.rt,bk:=fun σ H=>D.bk (σ.set i none) H,ct:=fun σ H=>D.ct (σ.set i none) H }
def hAs (K:Frag)(C0:Addr)(i:Nat)(ts:TS)(tr:TH):TH:=fun e C D σ H=>∃b,PySem.W.exmOne K (.ref C) (.ref C0)=some b∧if b=true then ts (unE i D) (σ.set i (some (.ref e))) H else tr e C D σ H
def Znn:TH:=fun _ _ _ _ _=>False
section
variable {X:Cx}{x n:Str}{np pos:Pos}{b₀:Stmt}{suite:List Stmt}{rest:List ExceptHandler}{ts:TS}{tr:TH}{C0:Addr}{i:Nat}
def ZlA (K:Frag)(C0:Addr)(ts:TS)(tr:TH):TH:=fun e C D σ H=>∃b,PySem.W.exmOne K (.ref C) (.ref C0)=some b∧if b=true then ts D σ H else tr e C D σ H
def tTry (tb:TSx)(th:TH):TS:=fun D σ H=>tb D (fun σ' cls oe H'=>∃e C,cls=.ref C∧oe=some e∧th e C D σ' H') σ H
end
end L2
namespace L2
open PySem PySem.Spec PyProof.Rows
open PySem.W (Frag findIn specialIn typeIn mroIn clsIn subIn kitOne kitCls InstAt Looks)
section
variable {X:Cx}{pins:List (Addr×Obj)}{σ:St}{H:Hp}{s:Shared}{e C:Addr}{fs:List (Str×V)}{f:Str}{v:V}{A:Around}{E:Value→Shared→Prop}
theorem ZiE {d:Option Addr}(I:Inv X pins σ H s)(h:H e=some (xr e C d)):∃(o:Obj) (vs:Array Value),s.heap.get? e=some o∧o.cls=.ref C∧o.dict=d∧o.data=.fields vs:=(I.hok e _ h).1
theorem XAny.inst (I:Inv X pins σ H s)(x:XAny H e C fs):∃(ox:Obj) (od:Option Obj),InstAt s.heap e ox C od∧∀name,∃r,(match od with | some o=>PySem.W.lookIn name o | none=>some none)=some r∧RelO (fs.lookup name) r:=by
 cases x with
 | un h=>exact h.inst I
 | bare h=>
  obtain⟨o,vs,h1,h2,h3,h4⟩:=ZiE I h
  exact⟨o,none,⟨h1,h2,by unfold PySem.W.notCls;rw[h4],by rw[h3];trivial⟩,fun name=>⟨none,rfl,by trivial⟩⟩
 | @full d _ h h' hne=>
  obtain⟨o,vs,h1,h2,h3,h4⟩:=ZiE I h
  obtain⟨⟨_,mA,hn,hr,_⟩,_⟩:=I.hok d _ h'
  obtain⟨od,hod,hl⟩:=Zcz hn
  exact⟨o,some od,⟨h1,h2,by unfold PySem.W.notCls;rw[h4],by rw[h3];exact hod⟩,fun name=>⟨mA name,hl name,hr name⟩⟩
end
def Zkn (K:Frag)(ta:TE)(f:Str):TE:=fun σ H Q=>ta σ H fun x H1=>∃e C fs v,x=.ref e∧XAny H1 e C fs∧Xc K C∧NoAttr K C f∧fs.lookup f=some v∧Q v H1
inductive TyR (K:Frag) (H:Hp):V→Value→Prop where
 | ty {x:V} {t:Value} (h:TyX K H x t):TyR K H x t
 | exc {e C:Addr} {fs:List (Str×V)} (x:XAny H e C fs) (i:Xi K C):TyR K H (.ref e) (.ref C)
theorem Zbc {X:Cx}{K:Frag}(hK:X.K=K):ZbC X (.builtin "isinstance") (fun xs H Q=>∃x c t k b,xs=[x,c]∧clsV c=some k∧TyR K H x t∧kitOne K t k=some b∧Q (.bl b) H):=by
 subst hK
 rintro pins s σ H xs us Q I r ⟨x,c,t,k,b,rfl,hk,ty,e,q⟩
 cases ty with
 | ty h=>exact Zfe pins s σ H _ us Q I r ⟨x,c,t,k,b,rfl,hk,h,e,q⟩
 | exc xa i=>
  obtain⟨u,v,rfl,ru,rv⟩:=r.two
  have hv:v=k:=by
   cases c with
   | ref a=>cases hk;exact rv
   | ty n=>cases hk;exact rv
   | _=>cases hk
  subst hv
  cases ru
  obtain⟨ox,od,J,_⟩:=xa.inst I
  exact PySem.W.kia_one (ZfG i) I.kIn J e (fun z=>nomatch z) fun tk=>⟨.bl b,H,I.tok _,rfl,q⟩
end L2
namespace L2
open PySem PySem.Spec PyProof.Rows
open PySem.W (Frag)
theorem ObjOk.there {P:Program}{w:World}{H:Hp}{h:Heap}{a:Addr}:∀ {o:HO},ObjOk P w H h a o→∃u,h.get? a=some u
 | .lst _,x=>by obtain⟨_,_,_,_,e⟩:=x;exact⟨_,e⟩
 | .tup _,x=>by obtain⟨_,_,_,ob,e,_⟩:=x;exact⟨_,e⟩
 | .dK _,x=>by obtain⟨_,_,_,_,ob,_,_,e,_⟩:=x;exact⟨_,e⟩
 | .dT _,x=>by obtain⟨_,_,_,_,ob,_,_,e,_⟩:=x;exact⟨_,e⟩
 | .set _ _,x=>by obtain⟨ob,_,_,_,e,_⟩:=x;exact⟨_,e⟩
 | .ins _ _ _,x=>by obtain⟨_,_,_,e,_⟩:=x;exact⟨_,e⟩
 | .own _,x=>x
 | .xd _,x=>by obtain⟨_,⟨ob,_,_,e,_⟩,_⟩:=x;exact⟨_,e⟩
 | .met _ _,x=>⟨_,x⟩
 | .rng _ _,x=>by obtain⟨_,_,_,e⟩:=x;exact⟨_,e⟩
 | .frz _ _,x=>⟨_,x.1⟩
 | .tbl _,x=>⟨_,x⟩
 | .ext _,x=>x.2.1
theorem HOk.none_of {P:Program}{w:World}{H:Hp}{h:Heap}{a:Addr}(ok:HOk P w H h)(n:h.get? a=none):H a=none:=by
 cases q:H a with
 | none=>rfl
 | some o=>
  obtain⟨u,hu⟩:=(ok a o q).there
  rw[n]at hu
  cases hu
theorem Inv.laid2 {X:Cx}{pins:List (Addr×Obj)}{σ:St}{H:Hp}{s s':Shared}{a:Addr}{o:HO}(I:Inv X pins σ H s)(os:s'.os=s.os)(hg:s'.gens=s.gens)(k:∀b u,s.heap.get? b=some u→s'.heap.get? b=some u)(nw:s.heap.get? a=none)
  (new:ObjOk X.prog X.w (upd H a o) s'.heap a o):Inv X pins σ (upd H a o) s':=by
 have hn:=I.hok.none_of nw
 have ne:∀b u,s.heap.get? b=some u→b≠a:=fun b u q z=>by rw[z,nw]at q;cases q
 have neH:∀b u,H b=some u→b≠a:=fun b u q=>Zaf q hn
 refine I.call' (ch:=[]) os ⟨fun b u q _ _ _=>k b u q,fun b u q _ _ _=>⟨u.slots,k b u q⟩,fun b u q n _=>by rw[Zab (ne b u q)];exact n,fun b u q _=>⟨u,k b u q⟩,fun b xs q=>by rw[Zab (neH b _ q)];exact q,fun b u v q=>by rw[Zab (neH b _ q)];exact q,fun b ps q=>⟨#[],by rw[Zab (neH b _ q),Array.append_empty];exact q⟩⟩
  (fun b u q=>?_) (by rw[hg];exact I.bare) (fun b hb=>by cases hb)
 by_cases hb:b=a
 ·subst hb
  rw[Zad]at q
  cases q
  exact new
 ·rw[Zab hb]at q
  exact(I.hok b u q).stay (fun c w' _ q=>k c w' q) (fun c q=>by rw[Zab (neH c _ q)];exact q) fun c xs q=>by rw[Zab (neH c _ q)];exact q
section
variable {X:Cx}
def signs (l:List Nat):List (List Nat):=l.map fun c=>[c]
theorem Ze4 {l:List Nat}{acc:Array Value}(h:ItemsOf (SignAt ⟨l.toArray⟩) acc (⟨l.toArray⟩:Str).cps.size):Vals ((signs l).map tx) acc.toList:=by
 obtain⟨h1,h2⟩:=h
 have hl:(⟨l.toArray⟩:Str).cps.size=l.length:=by show l.toArray.size=_;simp
 rw[hl]at h1
 have gen:∀(l:List Nat) (us:List Value),us.length=l.length→(∀(j:Nat) (v:Value),us[j]?=some v→∃(c:Nat) (u:Tok),l[j]?=some c∧v=Value.str ⟨#[c]⟩ u)→Vals ((signs l).map tx) us:=by
  intro l
  induction l with
  | nil=>
   intro us hl _
   have:us=[]:=List.eq_nil_of_length_eq_zero hl
   subst this
   exact .nil
  | cons c l ih=>
   intro us hl h
   cases us with
   | nil=>cases hl
   | cons u us=>
    obtain⟨c',t,e,rfl⟩:=h 0 u rfl
    cases e
    refine .cons ⟨t,rfl⟩ (ih us (by simpa using hl) fun j v e=>h (j+1) v e)
 refine gen l acc.toList (by rw[Array.length_toList,h1]) fun j v e=>?_
 rw[Array.getElem?_toList]at e
 obtain⟨c,u,e1,e2⟩:=h2 j v e
 exact⟨c,u,by simpa using e1,e2⟩
theorem Zez (hc:X.calm=true):ZbC X (.type "list") (fun xs H Q=>∃l,xs=[tx l]∧l.length≤1000∧NewL ((signs l).map tx) H Q):=by
 rintro pins s σ H xs us Q I r ⟨l,rfl,hz,q⟩
 obtain⟨u,rfl,t,rfl⟩:=r.one
 have hl:(⟨l.toArray⟩:Str).cps.size=l.length:=by show l.toArray.size=_;simp
 refine call_list_str (I.ok.hd hc) _ t (fun h' tk acc c k e it=>?_) (by rw[hl];exact Nat.le_of_lt (Zcl hz))
 refine⟨.ref s.heap.objs.size,_,I.laid (t':=tk) k (Nat.le_refl _) ?_,rfl,q _ I.fresh⟩
 exact⟨by unfold signs;rw[List.length_map,List.length_map];exact Nat.le_of_lt (Zcl hz),acc.toList,c,Ze4 it,by rw[Array.toArray_toList];exact e⟩
theorem ZhH (hc:X.calm=true):ZbC X (.builtin "all") (fun xs H Q=>∃(a:Addr) (bs:List Bool),xs=[.ref a]∧H a=some (.lst (bs.map V.bl))∧Q (.bl (bs.all id)) H):=by
 rintro pins s σ H xs us Q I r ⟨a,bs,rfl,ha,q⟩
 obtain⟨u,rfl,ru⟩:=r.one
 cases ru
 obtain⟨_,its,n,r',hlen,e⟩:=I.lstM ha
 have hl:s.heap.IsList a its.toArray:=PySem.IsL.isList e
 have hne:a≠s.heap.objs.size:=Nat.ne_of_lt (Heap.lt_size e)
 refine call_all_walkS (wpAny_pyIter_list hl ?_)
 have hL:its.toArray.size=bs.length:=by rw[List.size_toArray,←r'.length,List.length_map]
 have W:=(Walks.list (prog:=X.prog) (w:=X.w) (A:=X.A.in1) (by simpa using I.ok.hd hc) s.heap.objs.size a hne its.toArray).toS
 refine⟨s.heap.objs.size,_,_,_,_,_,_,fun i=>bs.getD i true,rfl,W,⟨⟨_,Heap.get?_push_size _ rfl,rfl,rfl⟩,hl.push _⟩,?_,fun s' hm=>?_⟩
 ·intro i v s Q E hv hQ
  have e':its[i]?=some v:=by simpa using hv
  obtain⟨x,hx,rx⟩:=ZeL r' e'
  rw[List.getElem?_map]at hx
  cases hb:bs[i]? with
  | none=>rw[hb]at hx;cases hx
  | some b=>
   rw[hb]at hx
   cases hx
   obtain rfl:v=Value.bool b:=rx
   have:bs.getD i true=b:=by rw[List.getD_eq_getElem?_getD,hb];rfl
   have hQ':Q (bs.getD i true) s:=hQ
   rw[this]at hQ'
   exact wpAny_truthy_bool hQ'
 ·have ea:(List.range its.toArray.size).all (fun i=>bs.getD i true)=bs.all id:=by
   rw[hL]
   rw[Bool.eq_iff_iff,List.all_eq_true,List.all_eq_true]
   constructor
   ·intro h b hb
    obtain⟨i,hi,rfl⟩:=List.getElem_of_mem hb
    have:=h i (List.mem_range.mpr hi)
    rw[List.getD_eq_getElem?_getD,List.getElem?_eq_getElem hi]at this
    exact this
   ·intro h i hi
    have hi:=List.mem_range.mp hi
    rw[List.getD_eq_getElem?_getD,List.getElem?_eq_getElem hi]
    exact h _ (List.getElem_mem hi)
  rw[ea]
  have I2:Inv X pins σ H s':=I.call' (ch:=[]) hm.os (Un.kept fun b o q=>hm.heap b o (fun z=>?_) (Heap.get?_push_of_some _ q)) (I.hok.kept fun b o q=>hm.heap b o (fun z=>?_) (Heap.get?_push_of_some _ q)) (by rw[show s'.gens=s.gens from hm.gens];exact I.bare) (fun b hb=>by cases hb)
  ·exact⟨.bl _,H,I2,rfl,q⟩
  ·have z:b=s.heap.objs.size:=by simpa using z
   rw[z]at q;exact absurd (Heap.lt_size q) (Nat.lt_irrefl _)
  ·have z:b=s.heap.objs.size:=by simpa using z
   rw[z]at q;exact absurd (Heap.lt_size q) (Nat.lt_irrefl _)
def tset (P:Program)(w:World)(a:Addr)(ls:List (List Nat)):HO:=.ext fun h=>TxSet P w h a ls (!ZaX w)
theorem Zjb {P:Program}{w:World}{H:Hp}{h:Heap}{a:Addr}{ls:List (List Nat)}(x:TxSet P w h a ls (!ZaX w)):ObjOk P w H h a (tset P w a ls):=by
 obtain⟨o,es,ep,t,ms,h1,r⟩:=id x
 exact⟨x,⟨o,h1⟩,fun g1 g2 y k=>y.keep k⟩
def ddl (ls:List (List Nat)):List (List Nat):=ls.foldl addT []
theorem Zfa {ls:List (List Nat)}:dd (fun i=>ls.getD i []) ls.length=ddl ls:=by
 unfold dd ddl
 congr 1
 apply List.ext_getElem
 ·simp
 ·intro n h1 h2
  simp[h2]
theorem ZcM (hc:X.calm=true):ZbC X (.type "set") (fun xs H Q=>∃ls:List (List Nat),ls.length≤1000∧((∃l,xs=[tx l]∧ls=signs l)∨∃a,xs=[.ref a]∧SqL X.K H a (ls.map tx))∧∀p,H p=none→Q (.ref p) (upd H p (tset X.prog X.w p (ddl ls)))):=by
 rintro pins s σ H xs us Q I r ⟨ls,hz,hx,q⟩
 have hb:ls.length+1<scanBound:=by show _<4096;omega
 have fin:∀(h':Heap) (tk:Nat),TxSet X.prog X.w h' s.heap.objs.size (ddl ls) (!ZaX X.w)→(∀b o,s.heap.get? b=some o→h'.get? b=some o)→EP X pins σ Q (.ref s.heap.objs.size) { s with heap:=h',toks:=tk }:=fun h' tk hS k=>
  ⟨.ref s.heap.objs.size,_,I.laid (t':=tk) k (Nat.le_refl _) (Zjb hS),rfl,q _ I.fresh⟩
 rcases hx with⟨l,rfl,rfl⟩|⟨a,rfl,hq⟩
 ·obtain⟨u,rfl,t,rfl⟩:=r.one
  have hl:(signs l).length=l.length:=by unfold signs;rw[List.length_map]
  have e0:dd (fun i=>[l.getD i 0]) l.length=ddl (signs l):=by
   unfold dd ddl signs
   congr 1
   apply List.ext_getElem
   ·simp
   ·intro n h1 h2
    have:n<l.length:=by simpa using h2
    simp[this]
  refine Zfq (I.ok.hd hc) (ZeI (prog:=X.prog) (w:=X.w) (s:=s) (l:=l) (t:=t)) F.sub_str_set F.sub_str_frozenset (by decide) (by rw[←hl];exact hb) fun h' tk hS k _=>?_
  rw[e0]at hS
  exact fin h' tk hS k
 ·obtain⟨u,rfl,ru⟩:=r.one
  cases ru
  obtain⟨its,rv,p,_⟩:=I.list hq
  refine Zfq (I.ok.hd hc) (ZeJ (prog:=X.prog) (w:=X.w) (s:=s) p.isList rv) F.sub_list_set F.sub_list_frozenset (by decide) hb fun h' tk hS k _=>?_
  rw[Zfa]at hS
  exact fin h' tk hS k
theorem Zbv (hc:X.calm=true):ZbC X (.builtin "sorted") (fun xs H Q=>∃a ls,xs=[.ref a]∧H a=some (tset X.prog X.w a ls)∧ls.length<64∧NewL ((Zbn ls).map tx) H Q):=by
 rintro pins s σ H xs us Q I r ⟨a,ls,rfl,ha,h64,q⟩
 obtain⟨u,rfl,ru⟩:=r.one
 cases ru
 have hS:TxSet X.prog X.w s.heap a ls (!ZaX X.w):=(I.hok a _ ha).1
 refine Zf1 (I.ok.hd hc) hS h64 fun s' b us e nw k hg ho hb rv=>?_
 have hl:(Zbn ls).length≤sizeLine:=by rw[(ZaK ls).length_eq];exact Nat.le_trans (Nat.le_of_lt h64) (by rw[sizeLine_eq];decide)
 exact⟨.ref b,_,I.laid2 (o:=.lst ((Zbn ls).map tx)) ho hg k nw ⟨by rw[List.length_map];exact hl,us,e,rv,hb⟩,rfl,q b (I.hok.none_of nw)⟩
end
theorem Zbo {X:Cx}{x:Str}{l:List Nat}{j:Nat}{pos:Pos}(h:x=⟨l.toArray⟩):PE X (.Constant (.str x) j pos) (tC (tx l)):=by subst h;exact ZkU
theorem Zh3 {X:Cx} {x y:Str} {pos:Pos} (hg:Gl X x) (hm:∃t,X.mg x=some (.str y t)) (hd:(x == ("__debug__":Str))=false:=by decide):PE X (.Name x pos) (tC (.str y)):=by
 obtain⟨t,h⟩:=hm
 exact ZgZ hg h ⟨t,rfl⟩ hd
theorem ZbQ {X:Cx} {x:Str} {y:Int} {pos:Pos} (hg:Gl X x) (hm:∃t,X.mg x=some (.int y t)) (hd:(x == ("__debug__":Str))=false:=by decide):PE X (.Name x pos) (tC (.int y)):=by
 obtain⟨t,h⟩:=hm
 exact ZgZ hg h ⟨t,rfl⟩ hd
section
variable {CX:CXT}{P:Program}{w:World}{K:PySem.W.Frag}{mg:Str→Option Value}{base:Heap}{N:List Str}{qual:Str}{scope:Scope}{f:Addr}{cd:Value}{A:Around}{outer:List Env}{s:Shared}{H:Hp}{E:XK}{X:Cx}{e:Addr}
theorem cxPr:(cxOf CX P w K mg base N qual scope f cd A outer s H E).prog=P:=rfl
theorem cxWo:(cxOf CX P w K mg base N qual scope f cd A outer s H E).w=w:=rfl
theorem suxK:(sux X e).K=X.K:=rfl
theorem ZlU:(sux X e).prog=X.prog:=rfl
theorem ZlT:(sux X e).w=X.w:=rfl
end
end L2
namespace L2
open PySem PySem.Spec PyProof.Rows
open PySem.W (Frag KeqHits)
section
variable {X:Cx}{K:Frag}
end
end L2
namespace L2
open PySem PySem.Spec PyProof.Rows
open PySem.W (Frag)
end L2
namespace L2
open PySem PySem.Spec PyProof.Rows
section
variable {prog:Program}{w:World}{A:Around}{E:Value→Shared→Prop}{s:Shared}
variable {z TI TO i1 i2:Addr}{f1 f2:List Addr}{n i:Nat}{P1 P2:Nat→Value→Prop}{S1 S2:Nat→Heap→Prop}{a b:Value}
end
section
variable {prog:Program}{w:World}{A:Around}{E:Value→Shared→Prop}{s:Shared}{z TI TO i1 i2:Addr}{f1 f2:List Addr}{n i:Nat}{P1 P2:Nat→Value→Prop}{S1 S2:Nat→Heap→Prop}{a b:Value}
end
def Itz (K:PySem.W.Frag)(a b:Addr):It:=
  ⟨fun i H=>∃xs ys x y,SqT K H a xs∧SqT K H b ys∧xs.length=ys.length∧xs[i]?=some x∧ys[i]?=some y,
   fun i H v H'=>∃p x y,H p=none∧v=.ref p∧H'=upd H p (.tup [x,y])∧(∀xs,SqT K H a xs→xs[i]?=some x)∧∀ys,SqT K H b ys→ys[i]?=some y,
   fun i H=>∃xs ys,SqT K H a xs∧SqT K H b ys∧xs.length=ys.length∧xs.length=i⟩
section
variable {X:Cx}{es:List Expr}{x1:Nat}{tp:Pos}
def iZip (K:PySem.W.Frag)(ta:TA):TI:=fun σ H R=>ta σ H fun vs H1=>∃a b,vs=[.ref a,.ref b]∧(∃xs,SqT K H1 a xs)∧(∃ys,SqT K H1 b ys)∧R (Itz K a b) H1
end
section
variable {prog:Program}{w:World}{A:Around}{E:Value→Shared→Prop}{s:Shared}{l I S:Addr}{ls:List (List Nat)}{vs:List Value}{R:Result→Shared→Prop}{Q:Value→Shared→Prop}
end
section
variable {X:Cx}{e:Expr}{ta:TA}{p p2 pos kpos:Pos}
def repT (l:List Nat)(n:Int):List Nat:=(List.replicate n.toNat l).flatten
theorem Zen (a:Array Nat):∀(n:Nat) (acc:Array Nat),((List.replicate n a).foldl (·++·) acc).toList=acc.toList++(List.replicate n a.toList).flatten
 | 0,acc=>by simp
 | n+1,acc=>by
  rw[List.replicate_succ,List.foldl_cons,Zen a n,List.replicate_succ]
  simp
theorem Zlc (l:List Nat)(n:Int):Txt.mul ⟨l.toArray⟩ n=⟨(repT l n).toArray⟩:=by
 unfold Txt.mul repT
 by_cases h1:n<1
 ·rw[if_pos h1]
  have:n.toNat=0:=by omega
  rw[this];rfl
 ·rw[if_neg h1]
  split
  ·rename_i h
   rw[Bool.or_eq_true]at h
   rcases h with h | h
   ·have:n=1:=by simpa using h
    subst this
    simp
   ·have:l=[]:=by
     have:=beq_iff_eq.mp h
     rw[Zdj]at this
     exact List.length_eq_zero_iff.mp this
    subst this
    simp
  ·congr 1
   apply Array.ext'
   rw[Zen]
   simp
theorem Zg2:OpR X (binaryOp .Mult) (fun x y H Q=>∃l n,x=tx l∧y=.int n∧0≤n∧n≤1000∧l.length≤1000∧Q (tx (repT l n)) H):=by
 rintro pins s σ H x y v u Q I rx ry ⟨l,n,rfl,rfl,h0,h1,h2,q⟩
 obtain⟨t,rfl⟩:=rx
 obtain⟨t',rfl⟩:=ry
 have e1:(⟨l.toArray⟩:Str).length=l.length:=Zdj l
 refine SB.mul ⟨?_,fun a b=>?_,fun a b=>?_⟩ fun t2 k=>?_
 ·simp only[Bool.or_eq_false_iff,decide_eq_false_iff_not];omega
 ·rw[e1]
  have e3:(1000:Int)≤(2 ^ 63-1)/n:=by
   rw[Int.le_ediv_iff_mul_le (by omega)]
   omega
  omega
 ·rw[e1]
  have:l.length*n.toNat≤1000*1000:=Nat.mul_le_mul h2 (by omega)
  unfold Builtin.Str.tooLong
  simp only[decide_eq_false_iff_not]
  rw[sizeLine_eq]
  omega
 ·rw[Zlc];exact⟨tx _,H,I.tok _,⟨_,rfl⟩,q⟩
end
end L2
namespace L2
open PySem PySem.Spec PyProof.Rows
open PySem.W (Frag)
def sNo:TS:=fun _ _ _=>False
theorem Zd4 {X:Cx}{st:Stmt}:PS X st sNo:=fun _ _ _ _ _ _ h=>h.elim
section
variable {X:Cx}{CX:CXT}{k:Nat}{L f:Addr}{fd:FuncData}{ps:List Str}{sp:Sp}{E:XK}{x:Str}{pos apos np:Pos}{e:Expr}{es:List Expr}{t:TA}{ds:List Value}{dvs:List V}
theorem Zh5 {pl:Sem Bool} (hg:Gl X x) (hm:X.mg x=some (.ref L)) (cr:ClsRead X.K L "__init__" (.ref f)) (F:FnOk X.prog X.w X.K X.mg X.base CX k f fd ps sp) (hr:Room k X.A) (hk:PySem.W.keepIn X.K (.ref f)=true) (hb:Binds X.K fd ps ds) (hd:Vals dvs ds) (hx:Zcc CX X E)
  (ha:PA X (e::es) t) (hdb:(x == ("__debug__":Str))=false:=by decide) (hst:starEach (e::es) X.env=(false,eval e X.env)::starEach es X.env:=by rfl) (hpl:(backTo pos (starEach es X.env)).any (·.1)=false:=by rfl)
  (ht:eval (.Call (.Attribute (.Name x np) "__init__" apos) (e::es) [] pos) X.env=(do
   let ov ←eval (.Name x np) X.env
   standAt apos.atName
   let (f,first) ←holding [ov] (getMethod ov "__init__" pl)
   callWith pos f first (backTo pos (starEach (e::es) X.env)) (backToKw pos (keywordEach [] X.env))):=by rfl):PE X (.Call (.Attribute (.Name x np) "__init__" apos) (e::es) [] pos) (Zji sp dvs E t):=by
 intro pins s σ H Q I h
 refine PySem.W.methodCall_KW (pl:=pl) (Zdy I hg hm ?_ hdb) ht
 refine PySem.W.method_cls I.kIn cr.sp (PySem.W.cls_value I.kIn cr.rd cr.fd cr.hn ?_)
 refine PySem.W.callWith_K (first:=[]) (h₀:=X.base) I.ok.mod.kin hk (thn (ha pos pins _ σ H _ (I.tok _) h) fun us s1 ⟨vs,H1,I1,r,q⟩=>⟨I1.kIn,?_⟩) hst hpl
 exact Zfr F hr hb hd hx I1 r q
end
def WhileRun (c:TT)(tb:TS)(D:Ends)(σ:St)(H:Hp):Prop:=ZgG c tb D σ H
theorem Zjx {c:TT}{tb:TS}{D:Ends}{σ:St}{H:Hp}:ZgG c tb D σ H=WhileRun c tb D σ H:=rfl
theorem WhileRun.by {c:TT}{tb:TS}{D:Ends}{σ:St}{H:Hp}(Pv:St→Hp→Prop)(μ:St→Hp→Nat)(h0:Pv σ H)
  (hs:∀σ H,Pv σ H→∃b:Bool,(∀Q:Bool→Hp→Prop,(∀H1,Same H H1→Q b H1)→c σ H Q)∧∀H1,Same H H1→if b=true then tb { D with nx:=fun σ' H'=>Pv σ' H'∧μ σ' H'<μ σ H,ct:=fun σ' H'=>Pv σ' H'∧μ σ' H'<μ σ H,bk:=D.nx } σ H1 else D.nx σ H1):WhileRun c tb D σ H:=by
 refine⟨fun m σ H=>m=μ σ H∧Pv σ H,⟨_,rfl,h0⟩,?_⟩
 rintro m σ H ⟨rfl,p⟩
 obtain⟨b,hc,hb⟩:=hs σ H p
 refine hc _ fun H1 s1=>?_
 have q:=hb H1 s1
 cases b with
 | true=>exact⟨_,fun σ' H' ⟨p',l⟩=>⟨_,l,rfl,p'⟩,q⟩
 | false=>exact q
end L2
namespace L2
open PySem PySem.Spec PyProof.Rows
section
variable {X:Cx}{k:Nat}{f C:Addr}{fd:FuncData}{ps:List Str}{sp:Sp}{dvs:List V}{ds:List Value}{x m:Str}{p pos apos:Pos}{e o:Expr}{es:List Expr}{ta:TE}{t:TA}
def Zks (C:Addr)(m:Str)(sp:Sp)(dvs:List V)(ta:TE)(t:TA):TX:=fun σ H Q E=>ta σ H fun x H1=>∃a dx fs,x=.ref a∧H1 a=some (.ins C dx fs)∧fs.lookup m=none∧t σ H1 fun vs H2=>sp (x::(vs++dvs)) H2 Q E
def Zkt (C:Addr)(sp:Sp)(dvs:List V)(t:TA):TX:=fun σ H Q E=>t σ H fun vs H1=>∀x dx,H1 x=none→H1 dx=none→dx≠x→sp (.ref x::(vs++dvs)) (upd (upd H1 dx (.own x)) x (.ins C dx [])) (fun v H2=>v=.non∧Q (.ref x) H2) E
end
section
variable {X:Cx}
def ZkM (t u:TSx):TSx:=fun D Ex σ H=>t { D with nx:=fun σ1 H1=>u D Ex σ1 H1 } Ex σ H
end
section
variable {X:Cx}{pins:List (Addr×Obj)}{σ:St}{H:Hp}{s:Shared}
def Zkf:HO→Prop
 | .tup _=>False
 | .tbl _=>False
 | .own _=>False
 | _=>True
theorem Inv.shift {a:Addr}{u u':HO}(I:Inv X pins σ H s)(ha:H a=some u)(hu:Zkf u)(hf:∀o v,X.H₀ a≠some (.frz o v))(new:ObjOk X.prog X.w (upd H a u') s.heap a u'):Inv X pins σ (upd H a u') s:=by
 have nn:∀b,H b=none→b≠a:=fun b n z=>by rw[z,ha]at n;cases n
 refine⟨I.ok,I.os,I.bare,⟨I.base.keep,I.base.slot,fun b o e n hx=>?_,I.base.there,fun b xs e=>?_,fun b o v e=>?_,fun b ps e=>?_⟩,I.loc,I.cell,?_,fun x c e=>?_,fun p hp=>?_,fun b ob e=>?_,I.len⟩
 ·have:=I.base.free b o e n hx
  rw[Zab (nn b this)];exact this
 ·have:=I.base.tups b xs e
  have ne:b≠a:=fun z=>by rw[z,ha]at this;cases this;exact hu
  rw[Zab ne];exact this
 ·have ne:b≠a:=fun z=>hf o v (by rw[←z];exact e)
  rw[Zab ne];exact I.base.frzs b o v e
 ·obtain⟨m,q⟩:=I.base.tbls b ps e
  have ne:b≠a:=fun z=>by rw[z,ha]at q;cases q;exact hu
  exact⟨m,by rw[Zab ne];exact q⟩
 ·rw[Zab (nn _ I.free)];exact I.free
 ·rw[Zab (nn _ (I.freeC x c e))];exact I.freeC x c e
 ·obtain⟨e,n,r⟩:=I.pin p hp
  exact⟨e,by rw[Zab (nn _ n)];exact n,r⟩
 ·by_cases hb:b=a
  ·subst hb
   rw[Zad]at e
   cases e
   exact new
  ·rw[Zab hb]at e
   refine(I.hok b ob e).stay (fun _ _ _ q=>q) (fun c q=>?_) fun c xs q=>?_
   ·have ne:c≠a:=fun z=>by rw[z,ha]at q;cases q;exact hu
    rw[Zab ne];exact q
   ·have ne:c≠a:=fun z=>by rw[z,ha]at q;cases q;exact hu
    rw[Zab ne];exact q
theorem Inv.notFrz {a:Addr}{u:HO}(I:Inv X pins σ H s)(ha:H a=some u)(hu:∀o v,u≠.frz o v):∀o v,X.H₀ a≠some (.frz o v):=fun o v e=>by
 have:=I.base.frzs a o v e
 rw[ha]at this
 exact hu o v (Option.some.inj this)
theorem Inv.freezeD {a:Addr}{kvs:List (Key×V)}(I:Inv X pins σ H s)(ha:H a=some (.dK kvs)):∃o es ep,o.data=.dict es ep∧s.heap.get? a=some o∧Inv X pins σ (upd H a (.frz o (.dK kvs))) s:=by
 obtain⟨z,y,vs,r,ob,es,ep,e,c⟩:=I.hok a _ ha
 refine⟨ob,es,ep,c.2.1,e,I.shift ha trivial (I.notFrz ha fun o v q=>by cases q) ⟨e,z,y,vs,r,ob,es,ep,e,c⟩⟩
theorem Inv.thawD {a:Addr}{o:Obj}{kvs:List (Key×V)}(I:Inv X pins σ H s)(ha:H a=some (.frz o (.dK kvs)))(hf:∀o v,X.H₀ a≠some (.frz o v)):Inv X pins σ (upd H a (.dK kvs)) s:=by
 obtain⟨e,z,y,vs,r,c⟩:=I.hok a _ ha
 exact I.shift ha trivial hf ⟨z,y,vs,r,c⟩
end
theorem Znk {P:Program}{w:World}{k:Key}{u:Value}(h:(Zao P w).is k u=true):RelV (kV k) u:=by
 cases k with
 | inl i=>
  have h':(intKind P w).is i u=true:=h
  cases u<;>first | (exact absurd h' Bool.false_ne_true) | skip
  rename_i j t
  have e:(i == j)=true∨(j == i)=true:=by first | exact .inl h' | exact .inr h'
  rcases e with e | e
  ·exact⟨t,by rw[beq_iff_eq.mp e]⟩
  ·exact⟨t,by rw[beq_iff_eq.mp e]⟩
 | inr x=>
  have h':(strKind P w).is x u=true:=h
  cases u<;>first | (exact absurd h' Bool.false_ne_true) | skip
  rename_i j t
  have e:(x == j)=true∨(j == x)=true:=by first | exact .inl h' | exact .inr h'
  rcases e with e | e
  ·exact⟨t,by rw[beq_iff_eq.mp e]⟩
  ·exact⟨t,by rw[beq_iff_eq.mp e]⟩
def Itd (o:Obj)(kvs:List (Key×V))(a:Addr):It:=
 ⟨fun i H=>H a=some (.frz o (.dK kvs))∧i<kvs.length,fun i H x H'=>H'=H∧∃p,kvs[i]?=some p∧x=kV p.1,fun i H=>H a=some (.frz o (.dK kvs))∧kvs.length≤i⟩
theorem KV.getK {kvs:List (Key×V)}{vs:List (Key×Value)}(r:KV kvs vs):∀ {i:Nat} {p:Key×V},kvs[i]?=some p→∃v,vs[i]?=some (p.1,v):=by
 intro i p h
 have hk:=r.keys
 have hl:=r.length
 have hi:i<vs.length:=by rw[←hl];exact(List.getElem?_eq_some_iff.mp h).1
 have e1:(kvs.map (·.1))[i]?=some p.1:=by rw[List.getElem?_map,h];rfl
 rw[hk,List.getElem?_map,List.getElem?_eq_getElem hi]at e1
 refine⟨vs[i].2,?_⟩
 rw[List.getElem?_eq_getElem hi]
 have:vs[i].1=p.1:=Option.some.inj e1
 rw[←this]
theorem ZgF {P:Program}{w:World}{K:PySem.W.Frag}{tg:Expr}{o:Obj}{es:Array DictEntry}{ep:Nat}{kvs:List (Key×V)}(a it:Addr)(hd:o.data=.dict es ep):Turn P w K tg (Itd o kvs a) [it] it (fun i h=>h.IsKeyIter it a i kvs.length ep) where
 mem:=by simp
 obj:=fun i h st b hb=>by
  have e:b=it:=by simpa using hb
  subst e
  obtain⟨o,e,c,d⟩:=st
  exact⟨o,e,fun v z=>by rw[d]at z;cases z⟩
 keep:=fun i h h' st k=>let ⟨o,ho,r⟩:=st;⟨o,k it (by simp) o ho,r⟩
 item:=by
  intro X hP hw hK hc i pins s σ H E I hf st hg
  subst hP hw hK
  obtain⟨ha,hi⟩:=hg
  obtain⟨e,z,y,vs,r,o',es',ep',e',c1,c2,c3⟩:=I.hok a _ ha
  rw[e]at e'
  cases e'
  rw[hd]at c2
  cases c2
  obtain⟨v,hv⟩:=r.getK (List.getElem?_eq_getElem hi)
  obtain⟨f0,f1,f2,f3,f4,f5⟩:=hf it (by simp)
  rw[r.length]at st
  refine wpAny_pyNext_dict_item st ⟨o,es,e,c1,hd,c3⟩ hv fun key h' hk st' sb=>?_
  have I1:Inv X pins σ H { s with heap:=h' }:=I.turned (t':=s.toks) (fun b o hb e=>(sb.2 b hb).trans e) f0 f1 f3 f4 f5
  obtain⟨oi,ei,ci,di⟩:=id st'
  rw[←r.length]at st'
  exact⟨key,rfl,Zhu (s:={ s with heap:=h' }) ei ci di (by decide) ⟨kV kvs[i].1,H,I1,Znk hk,⟨rfl,_,List.getElem?_eq_getElem hi,rfl⟩,st',fun b hb=>(hf b hb).1⟩⟩
 done:=by
  intro X hP hw hK hc i pins s σ H E I hf st hg
  subst hP hw hK
  obtain⟨ha,hi⟩:=hg
  obtain⟨e,z,y,vs,r,o',es',ep',e',c1,c2,c3⟩:=I.hok a _ ha
  rw[e]at e'
  cases e'
  rw[hd]at c2
  cases c2
  obtain⟨f0,f1,f2,f3,f4,f5⟩:=hf it (by simp)
  rw[r.length]at st hi
  exact wpAny_pyNext_dict_end (I.ok.hd hc) st ⟨o,es,e,c1,hd,c3⟩ (List.getElem?_eq_none hi) fun h' eb=>⟨rfl,I.turned (t':=s.toks) (fun b o hb e=>eb b o hb e) f0 f1 f3 f4 f5⟩
 self:=fun _ _ _ _ _ st h=>wpAny_pyIter_keyiter st h
section
variable {X:Cx}{tg:Expr}
def Zly (td:TE):TI:=fun σ H R=>td σ H fun x H1=>∃a kvs,x=.ref a∧H1 a=some (.dK kvs)∧∀o,R (Itd o kvs a) (upd H1 a (.frz o (.dK kvs)))
theorem Zct {l:Expr}{tl:TE}(hl:PE X l tl):PI X tg l (Zly tl):=by
 intro pins s σ H R I h
 refine thn (hl pins s σ H _ I h) fun v s1 ⟨x,H1,I1,r1,q1⟩=>?_
 obtain⟨a,kvs,e,hq,q⟩:=q1
 subst e
 cases r1
 obtain⟨z,y,vs,r,_⟩:=id (I1.hok a _ hq)
 obtain⟨o,es,ep,hd,ho,I2⟩:=I1.freezeD hq
 obtain⟨_,z2,y2,vs2,r2,o',es',ep',e',c1,c2,c3⟩:=I2.hok a _ Zad
 rw[ho]at e'
 cases e'
 rw[hd]at c2
 cases c2
 refine wpAny_pyIter_dict y2 ⟨o,es,ho,c1,hd,c3⟩ ?_
 refine⟨s1.heap.objs.size,[s1.heap.objs.size],_,_,_,rfl,I2.kept (t':=s1.toks) fun b o e=>Heap.get?_push_of_some _ e,ZgF (kvs:=kvs) a _ hd,⟨_,Heap.get?_push_size _ rfl,rfl,by rw[r2.length];rfl⟩,fun b hb=>?_,q o⟩
 have e:b=s1.heap.objs.size:=by simpa using hb
 subst e
 exact I2.fpOk (Nat.le_refl _) (I2.hok.fresh (Nat.le_refl _))
def Thw (a:Addr)(P:Hp→Prop)(H':Hp):Prop:=∃o kvs,H' a=some (.frz o (.dK kvs))∧P (upd H' a (.dK kvs))
def thD (a:Addr)(D:Ends):Ends:={ nx:=fun σ H=>Thw a (D.nx σ) H,rt:=fun v H=>Thw a (D.rt v) H,bk:=fun σ H=>Thw a (D.bk σ) H,ct:=fun σ H=>Thw a (D.ct σ) H }
def ZkI (ts:TS):TS:=fun D σ H=>∃a kvs,H a=some (.dK kvs)∧ts (thD a D) σ H
theorem Zb3 {st:Stmt}{ts:TS}(h:PS X st ts):PS X st (ZkI ts):=by
 intro pins s σ H D I ⟨a,kvs,ha,hh⟩
 have nf:=I.notFrz ha fun o v q=>by cases q
 refine wpAny_mono (h pins s σ H _ I hh) (fun f s1 q=>?_) fun _ _ z=>z
 cases f with
 | next=>obtain⟨σ1,H1,I1,o,k1,e1,q1⟩:=q;exact⟨σ1,_,I1.thawD e1 nf,q1⟩
 | brk=>obtain⟨σ1,H1,I1,o,k1,e1,q1⟩:=q;exact⟨σ1,_,I1.thawD e1 nf,q1⟩
 | cont=>obtain⟨σ1,H1,I1,o,k1,e1,q1⟩:=q;exact⟨σ1,_,I1.thawD e1 nf,q1⟩
 | ret u=>obtain⟨v,σ1,H1,I1,r,o,k1,e1,q1⟩:=q;exact⟨v,σ1,_,I1.thawD e1 nf,r,q1⟩
end
section
variable {g:TG}{tb:TS}{D:Ends}{σ:St}{H:Hp}{o:Obj}{kvs:List (Key×V)}{a:Addr}
theorem ForRun.dict (Pv:Nat→St→Hp→Prop)(h0:Pv 0 σ H)(hl:∀i σ H,Pv i σ H→H a=some (.frz o (.dK kvs)))
  (hs:∀i p σ H,kvs[i]?=some p→Pv i σ H→g (kV p.1) σ H fun σ2 H2=>tb { D with nx:=Pv (i+1),ct:=Pv (i+1),bk:=D.nx } σ2 H2) (hd:∀σ H,Pv kvs.length σ H→D.nx σ H):ForRun (Itd o kvs a) g tb D σ H:=by
 refine⟨fun i m σ H=>m=kvs.length-i∧i≤kvs.length∧Pv i σ H,⟨kvs.length,by simp,Nat.zero_le _,h0⟩,?_⟩
 rintro i m σ H ⟨rfl,hi,p⟩
 have q:=hl i σ H p
 by_cases hlt:i<kvs.length
 ·refine .inr ⟨⟨q,hlt⟩,Pv (i+1),fun σ' H' p'=>⟨kvs.length-(i+1),by omega,rfl,hlt,p'⟩,fun x H' y=>?_⟩
  obtain⟨e,p2,e2,e3⟩:=y
  subst e e3
  exact hs i p2 σ _ e2 p
 ·have e:i=kvs.length:=by omega
  subst e
  exact .inl ⟨⟨q,Nat.le_refl _⟩,hd σ H p⟩
end
theorem Same.thaw {H H1 H2:Hp}{a:Addr}{o:Obj}{kvs:List (Key×V)}(ha:H a=some (.dK kvs))(s:Same (upd H a (.frz o (.dK kvs))) H2):Same H (upd H2 a (.dK kvs)):=fun b u hb=>by
 by_cases e:b=a
 ·rw[e]at hb ⊢;rw[Zad,←hb,ha]
 ·rw[Zab e];exact s b u (by rw[Zab e];exact hb)
section
variable {prog:Program}{w:World}{A:Around}{E:Value→Shared→Prop}{s:Shared}
end
def kTx (l:List Nat):Key:=.inr ⟨l.toArray⟩
theorem Zgl (l:List Nat):kV (kTx l)=tx l:=rfl
section
variable {X:Cx}
end
def wordsOf (l:List Nat)(n:Nat):List (List Nat):=Zbn (ddl ((List.range (l.length+1-n)).map fun i=>(l.drop i).take n))
theorem ZbD {x:List Nat}:∀(ls acc:List (List Nat)),x∈ls.foldl addT acc↔x∈acc∨x∈ls
 | [],acc=>by simp
 | y::ls,acc=>by
  rw[List.foldl_cons,ZbD ls]
  have h:x∈addT acc y↔x∈acc∨x=y:=by
   unfold addT
   split
   ·rename_i h
    constructor
    ·exact .inl
    ·rintro (q | q)
     ·exact q
     ·rw[q];exact h
   ·rw[List.mem_append,List.mem_singleton]
  rw[h,List.mem_cons,or_assoc]
theorem ZjI {x:List Nat}{ls:List (List Nat)}:x∈ddl ls↔x∈ls:=by
 unfold ddl
 rw[ZbD]
 simp
end L2
namespace L2
open PySem PySem.Spec PyProof.Rows
open PySem.W (Frag)
def AtW (l w:List Nat)(i:Nat):Prop:=i+w.length≤l.length∧(l.drop i).take w.length=w
def Inf (w l:List Nat):Prop:=∃i,AtW l w i
theorem ZdV (l w:List Nat)(i:Nat):StrLaws.At ⟨l.toArray⟩ ⟨w.toArray⟩ (⟨l.toArray⟩:Str).length i↔AtW l w i:=by
 have e1:(⟨l.toArray⟩:Str).length=l.length:=Zdj l
 have e2:(⟨w.toArray⟩:Str).length=w.length:=Zdj w
 unfold StrLaws.At AtW Builtin.Str.subAt
 rw[e1,e2]
 refine and_congr_right fun h=>?_
 have e3:l.toArray.extract i (i+w.length)=((l.drop i).take w.length).toArray:=by
  apply Array.ext'
  simp only[List.extract_toArray,List.extract_eq_take_drop]
  have:i+w.length-i=w.length:=by omega
  rw[this]
 show (l.toArray.extract i (i+w.length) == w.toArray)=true↔_
 rw[e3,beq_iff_eq]
 exact⟨fun z=>by simpa using congrArg Array.toList z,fun z=>by rw[z]⟩
theorem AtW.nil (l:List Nat):AtW l [] 0:=⟨by simp,by simp⟩
theorem Inf.nil (l:List Nat):Inf [] l:=⟨0,AtW.nil l⟩
theorem Inf.len {w l:List Nat}(h:Inf w l):w.length≤l.length:=by obtain⟨i,h,_⟩:=h;omega
theorem Inf.mem {w l:List Nat}(h:Inf w l){c:Nat}(hc:c∈w):c∈l:=by
 obtain⟨i,_,h⟩:=h
 rw[←h]at hc
 exact List.mem_of_mem_drop (List.mem_of_mem_take hc)
theorem Inf.refl (l:List Nat):Inf l l:=⟨0,by simp,by simp⟩
theorem AtW.trans {u v w:List Nat}{i j:Nat}(h1:AtW v u i)(h2:AtW w v j):AtW w u (j+i):=by
 obtain⟨a1,b1⟩:=h1
 obtain⟨a2,b2⟩:=h2
 refine⟨by omega,?_⟩
 have e:(w.drop (j+i)).take u.length=((((w.drop j).take v.length).drop i).take u.length):=by
  rw[List.drop_take,List.drop_drop,List.take_take]
  congr 1
  omega
 rw[e,b2,b1]
theorem Inf.trans {u v w:List Nat}(h1:Inf u v)(h2:Inf v w):Inf u w:=by
 obtain⟨i,h1⟩:=h1
 obtain⟨j,h2⟩:=h2
 exact⟨_,h1.trans h2⟩
theorem Zil (w:List Nat):Inf w.tail w:=by
 cases w with
 | nil=>exact Inf.nil _
 | cons c w=>exact⟨1,by simp;omega,by simp⟩
theorem Zin (w:List Nat):Inf w.dropLast w:=⟨0,by simp,by rw[List.drop_zero,List.length_dropLast,List.dropLast_eq_take]⟩
theorem ZjS {v w:List Nat}(h:Inf v w)(hl:v.length<w.length):Inf v w.dropLast∨Inf v w.tail:=by
 obtain⟨i,h1,h2⟩:=h
 cases i with
 | zero=>
  refine .inl ⟨0,by rw[List.length_dropLast];omega,?_⟩
  rw[List.drop_zero]at h2 ⊢
  rw[List.dropLast_eq_take,List.take_take]
  have:min v.length (w.length-1)=v.length:=by omega
  rw[this];exact h2
 | succ i=>
  refine .inr ⟨i,by rw[List.length_tail];omega,?_⟩
  rw[List.drop_tail];exact h2
theorem ZiS {v w:List Nat}(h:Inf v w)(hl:w.length≤v.length):v=w:=by
 obtain⟨i,h1,h2⟩:=h
 have hi:i=0:=by omega
 subst hi
 rw[List.drop_zero,List.take_of_length_le hl]at h2
 exact h2.symm
theorem ZaF {l x:List Nat}{n:Nat}(hn:n≤l.length+1):x∈wordsOf l n↔x.length=n∧Inf x l:=by
 unfold wordsOf
 rw[(ZaK _).mem_iff,ZjI,List.mem_map]
 constructor
 ·rintro⟨i,hi,rfl⟩
  have hi:=List.mem_range.mp hi
  have hl:((l.drop i).take n).length=n:=by rw[List.length_take,List.length_drop];omega
  exact⟨hl,i,by omega,by rw[hl]⟩
 ·rintro⟨rfl,i,h1,h2⟩
  exact⟨i,List.mem_range.mpr (by omega),h2⟩
theorem Zch (l:List Nat)(n:Nat):(wordsOf l n).length≤l.length+1:=by
 unfold wordsOf
 rw[(ZaK _).length_eq]
 have:∀(ls acc:List (List Nat)),(ls.foldl addT acc).length≤acc.length+ls.length:=by
  intro ls
  induction ls with
  | nil=>intro acc;simp
  | cons x ls ih=>
   intro acc
   rw[List.foldl_cons]
   refine Nat.le_trans (ih _) ?_
   unfold addT
   split<;>simp<;>omega
 have h:=this ((List.range (l.length+1-n)).map fun i=>(l.drop i).take n) []
 rw[List.length_map,List.length_range]at h
 unfold ddl
 simp only[List.length_nil]at h
 omega
def ZbX (sh st:List (List Nat))(h:List Nat)(c:Nat):Bool:=decide ((h++[c]).tail∈sh)&&!decide (h++[c]∈st)
def ZdB (sh st:List (List Nat))(m h:List Nat):List (List Nat):=(m.filter (ZbX sh st h)).map fun c=>h++[c]
def ZcV (sh st:List (List Nat))(m:List Nat):List (List Nat):=sh.flatMap (ZdB sh st m)
def ZbW (l m:List Nat)(i:Nat):List (List Nat):=(List.range i).flatMap fun k=>ZcV (wordsOf l k) (wordsOf l (k+1)) m
def Za3 (l m:List Nat):List (List Nat):=ZbW l m (l.length+1)
theorem ZcC (l m:List Nat)(i:Nat):ZbW l m (i+1)=ZbW l m i++ZcV (wordsOf l i) (wordsOf l (i+1)) m:=by
 unfold ZbW
 rw[List.range_succ,List.flatMap_append,List.flatMap_singleton]
theorem Zeh (sh st:List (List Nat))(m h:List Nat):(ZdB sh st m h).length≤m.length:=by unfold ZdB;rw[List.length_map];exact List.length_filter_le _ _
theorem ZaZ {α β:Type}{f:α→List β}{b:Nat}(h:∀x,(f x).length≤b):∀l:List α,(l.flatMap f).length≤l.length*b
 | []=>by simp
 | x::l=>by
  rw[List.flatMap_cons,List.length_append,List.length_cons,Nat.succ_mul]
  have:=h x
  have:=ZaZ h l
  omega
theorem Zhj (sh st:List (List Nat))(m:List Nat):(ZcV sh st m).length≤sh.length*m.length:=ZaZ (Zeh sh st m) sh
theorem Zcx {sh st:List (List Nat)}{m w:List Nat}:w∈ZcV sh st m↔∃h c,h∈sh∧c∈m∧w=h++[c]∧w.tail∈sh∧w∉st:=by
 unfold ZcV ZdB ZbX
 simp only[List.mem_flatMap,List.mem_map,List.mem_filter,Bool.and_eq_true,Bool.not_eq_true',decide_eq_true_iff,decide_eq_false_iff_not]
 constructor
 ·rintro⟨h,hh,c,⟨hc,h1,h2⟩,rfl⟩;exact⟨h,c,hh,hc,rfl,h1,h2⟩
 ·rintro⟨h,c,hh,hc,rfl,h1,h2⟩;exact⟨h,hh,c,⟨hc,h1,h2⟩,rfl⟩
structure Miss (l w:List Nat):Prop where
 ne:w≠[]
 init:Inf w.dropLast l
 tail:Inf w.tail l
 no:¬Inf w l
theorem Zax {l m w:List Nat}:w∈Za3 l m↔Miss l w∧∃c∈m,w.getLast?=some c:=by
 unfold Za3 ZbW
 rw[List.mem_flatMap]
 constructor
 ·rintro⟨k,hk,hw⟩
  have hk:=List.mem_range.mp hk
  obtain⟨h,c,h1,hc,rfl,h3,h4⟩:=Zcx.mp hw
  rw[ZaF (by omega)]at h1 h3
  refine⟨⟨by simp,by simpa using h1.2,h3.2,fun z=>h4 ((ZaF (by omega)).mpr ⟨by simp[h1.1],z⟩)⟩,c,hc,by simp⟩
 ·rintro⟨⟨ne,hi,ht,hn⟩,c,hc,hl⟩
  have e:w.dropLast++[c]=w:=by
   rw[List.getLast?_eq_some_getLast ne]at hl
   have h:=List.dropLast_concat_getLast ne
   rw[Option.some.inj hl]at h
   exact h
  have hlen:w.dropLast.length=w.length-1:=List.length_dropLast
  have h1:1≤w.length:=List.length_pos_iff.mpr ne
  refine⟨w.length-1,List.mem_range.mpr (by have:=hi.len;omega),Zcx.mpr ⟨w.dropLast,c,?_,hc,e.symm,?_,?_⟩⟩
  ·rw[ZaF (by have:=hi.len;omega)];exact⟨hlen,hi⟩
  ·rw[ZaF (by have:=hi.len;omega)];exact⟨List.length_tail,ht⟩
  ·rw[ZaF (by have:=hi.len;omega)];exact fun z=>hn z.2
theorem ZdA {l m:List Nat}:∀(n:Nat) (w:List Nat),w.length=n→(∀c∈w,c∈m)→¬Inf w l→∃v,v∈Za3 l m∧Inf v w:=by
 intro n
 induction n with
 | zero=>
  intro w hw _ hn
  have:w=[]:=List.length_eq_zero_iff.mp hw
  rw[this]at hn
  exact absurd (Inf.nil l) hn
 | succ n ih=>
  intro w hw hm hn
  have ne:w≠[]:=fun e=>by rw[e]at hw;simp at hw
  by_cases hi:Inf w.dropLast l
  ·by_cases ht:Inf w.tail l
   ·refine⟨w,Zax.mpr ⟨⟨ne,hi,ht,hn⟩,w.getLast ne,hm _ (List.getLast_mem ne),List.getLast?_eq_some_getLast ne⟩,Inf.refl w⟩
   ·obtain⟨v,h1,h2⟩:=ih w.tail (by rw[List.length_tail];omega) (fun c hc=>hm c (List.mem_of_mem_tail hc)) ht
    exact⟨v,h1,h2.trans (Zil w)⟩
  ·obtain⟨v,h1,h2⟩:=ih w.dropLast (by rw[List.length_dropLast];omega) (fun c hc=>hm c (List.mem_of_mem_take (by rw[←List.dropLast_eq_take];exact hc))) hi
   exact⟨v,h1,h2.trans (Zin w)⟩
theorem Zhi {l m w:List Nat}(hm:∀c∈w,c∈m):Inf w l↔∀v∈Za3 l m,¬Inf v w:=by
 constructor
 ·intro h v hv hw
  exact(Zax.mp hv).1.no (hw.trans h)
 ·intro h
  by_cases hi:Inf w l
  ·exact hi
  ·obtain⟨v,h1,h2⟩:=ZdA (m:=m) _ w rfl hm hi
   exact absurd h2 (h v h1)
theorem Zgk {l m v w:List Nat}(hv:v∈Za3 l m)(hw:w∈Za3 l m)(h:Inf v w):v=w:=by
 rcases Nat.lt_or_ge v.length w.length with hl | hl
 ·rcases ZjS h hl with h | h
  ·exact absurd (h.trans (Zax.mp hw).1.init) (Zax.mp hv).1.no
  ·exact absurd (h.trans (Zax.mp hw).1.tail) (Zax.mp hv).1.no
 ·exact ZiS h hl
theorem same_upd3' {H H2:Hp}{e:Addr}{o':HO}(h:H e=none)(s:Same H H2):Same H (upd H2 e o'):=fun b u hb=>by
 have:b≠e:=fun z=>by rw[z,h]at hb;cases hb
 rw[Zab this];exact s _ _ hb
section
variable {tt:TT}{te:TE}{Q:VK}{τ0:St}{H:Hp}{K:Frag}{a:Addr}{xs:List V}
theorem CompRun.listL (b:Nat→Bool)(f:Nat→V)(hz:xs.length≤100000)(hx:SqL K H a xs)
  (ht:∀i H' Q' (h:i<xs.length),Same H H'→(∀H'',Same H' H''→Q' (b i) H'')→tt (τ0.set 0 (some (xs.getD i .non))) H' Q')
  (he:∀i H' Q' (h:i<xs.length),b i=true→Same H H'→(∀H'',Same H' H''→Q' (f i) H'')→te (τ0.set 0 (some (xs.getD i .non))) H' Q')
  (hQ:∀p H',Same H H'→H p=none→H' p=some (.lst (((List.range xs.length).filter b).map f))→Q (.ref p) H'):CompRun (Itl K a) τ0 (ZbK 0) tt te H Q:=by
 intro acc ha
 refine⟨fun i m τ H2=>i≤xs.length∧m=xs.length-i∧(∀w:Option V,τ.set 0 w=τ0.set 0 w)∧Same H H2∧H2 acc=some (.lst (((List.range i).filter b).map f)),⟨xs.length,Nat.zero_le _,rfl,fun _=>rfl,Zav ha,Zad⟩,?_⟩
 rintro i m τ H2 ⟨hi,rfl,hτ,hs,hacc⟩
 by_cases hlt:i<xs.length
 ·refine .inr ⟨⟨xs,xs[i],hs.seq hx,by simp[hlt]⟩,fun τ' H'=>(∀w:Option V,τ'.set 0 w=τ0.set 0 w)∧Same H H'∧H' acc=some (.lst (((List.range (i+1)).filter b).map f)),fun τ' H' q=>⟨xs.length-(i+1),by omega,hlt,rfl,q⟩,fun x H3 y=>?_⟩
  obtain⟨rfl,y⟩:=y
  have ex:x=xs.getD i .non:=by rw[List.getD_eq_getElem?_getD,y xs (hs.seq hx)];rfl
  subst ex
  show tt (τ.set 0 (some (xs.getD i .non))) _ _
  rw[hτ]
  have hτ':∀w:Option V,(τ0.set 0 (some (xs.getD i .non))).set 0 w=τ0.set 0 w:=fun w=>by rw[List.set_set]
  refine ht i _ _ hlt hs fun H4 s4=>?_
  cases hb:b i with
  | false=>
   rw[if_neg Bool.false_ne_true]
   refine⟨hτ',hs.trans s4,?_⟩
   rw[s4 _ _ hacc,List.range_succ,List.filter_append]
   simp[hb]
  | true=>
   rw[if_pos rfl]
   refine he i _ _ hlt hb (hs.trans s4) fun H5 s5=>⟨_,s5 _ _ (s4 _ _ hacc),?_,hτ',same_upd3' ha ((hs.trans s4).trans s5),?_⟩
   ·rw[List.length_map]
    have:=List.length_filter_le b (List.range i)
    rw[List.length_range]at this
    rw[sizeLine_eq];omega
   ·rw[Zad,List.range_succ,List.filter_append]
    simp[hb]
 ·have e:i=xs.length:=by omega
  subst e
  exact .inl ⟨⟨xs,hs.seq hx,Nat.le_refl _⟩,hQ acc H2 hs ha hacc⟩
theorem CompRun.tups (P:Nat→List V→Prop)(hz:xs.length≤100000)(hx:SqL K H a xs)
  (he:∀i H' Q' (h:i<xs.length),Same H H'→(∀p vs H'',Same H' H''→H'' p=some (.tup vs)→P i vs→Q' (.ref p) H'')→te (τ0.set 0 (some (xs.getD i .non))) H' Q')
  (hQ:∀p ys H',Same H H'→H p=none→H' p=some (.lst ys)→ys.length=xs.length→(∀i y,ys[i]?=some y→∃t vs,y=.ref t∧H' t=some (.tup vs)∧P i vs)→Q (.ref p) H'):CompRun (Itl K a) τ0 (ZbK 0) tAll te H Q:=by
 intro acc ha
 refine⟨fun i m τ H2=>i≤xs.length∧m=xs.length-i∧(∀w:Option V,τ.set 0 w=τ0.set 0 w)∧Same H H2∧∃ys,H2 acc=some (.lst ys)∧ys.length=i∧∀i y,ys[i]?=some y→∃t vs,y=.ref t∧H2 t=some (.tup vs)∧P i vs,
  ⟨xs.length,Nat.zero_le _,rfl,fun _=>rfl,Zav ha,[],Zad,rfl,fun i y h=>by simp at h⟩,?_⟩
 rintro i m τ H2 ⟨hi,rfl,hτ,hs,ys,hacc,hlen,hall⟩
 by_cases hlt:i<xs.length
 ·refine .inr ⟨⟨xs,xs[i],hs.seq hx,by simp[hlt]⟩,fun τ' H'=>(∀w:Option V,τ'.set 0 w=τ0.set 0 w)∧Same H H'∧∃ys,H' acc=some (.lst ys)∧ys.length=i+1∧∀i y,ys[i]?=some y→∃t vs,y=.ref t∧H' t=some (.tup vs)∧P i vs,fun τ' H' q=>⟨xs.length-(i+1),by omega,hlt,rfl,q⟩,fun x H3 y=>?_⟩
  obtain⟨rfl,y⟩:=y
  have ex:x=xs.getD i .non:=by rw[List.getD_eq_getElem?_getD,y xs (hs.seq hx)];rfl
  subst ex
  unfold ZbK tAll
  dsimp only
  rw[if_pos rfl,hτ]
  have hτ':∀w:Option V,(τ0.set 0 (some (xs.getD i .non))).set 0 w=τ0.set 0 w:=fun w=>by rw[List.set_set]
  refine he i _ _ hlt hs fun p vs H5 s5 hp hP=>⟨ys,s5 _ _ hacc,by rw[hlen,sizeLine_eq];omega,hτ',same_upd3' ha (hs.trans s5),ys++[.ref p],Zad,by simp[hlen],fun j z hz'=>?_⟩
  have ne:∀ {t:Addr} {us:List V},H5 t=some (.tup us)→t≠acc:=fun h e=>by rw[e,s5 _ _ hacc]at h;cases h
  by_cases hj:j<ys.length
  ·rw[List.getElem?_append_left hj]at hz'
   obtain⟨t,us,rfl,h1,h2⟩:=hall j z hz'
   have h1':=s5 _ _ h1
   exact⟨t,us,rfl,by rw[Zab (ne h1')];exact h1',h2⟩
  ·rw[List.getElem?_append_right (by omega)]at hz'
   have hj':j-ys.length=0:=by
    rcases Nat.eq_zero_or_pos (j-ys.length) with h | h
    ·exact h
    ·rw[List.getElem?_eq_none (by simp;omega)]at hz';cases hz'
   rw[hj']at hz'
   cases hz'
   have:j=i:=by omega
   exact⟨p,vs,rfl,by rw[Zab (ne hp)];exact hp,by rw[this];exact hP⟩
 ·have e:i=xs.length:=by omega
  subst e
  exact .inl ⟨⟨xs,hs.seq hx,Nat.le_refl _⟩,hQ acc ys H2 hs ha hacc hlen hall⟩
end
def infB (w l:List Nat):Bool:=(List.range (l.length+1)).any fun i=>decide (i+w.length≤l.length)&&decide ((l.drop i).take w.length=w)
theorem Za5 {w l:List Nat}:infB w l=true↔Inf w l:=by
 unfold infB Inf AtW
 rw[List.any_eq_true]
 constructor
 ·rintro⟨i,_,h⟩
  rw[Bool.and_eq_true,decide_eq_true_eq,decide_eq_true_eq]at h
  exact⟨i,h⟩
 ·rintro⟨i,h1,h2⟩
  refine⟨i,List.mem_range.mpr (by omega),?_⟩
  rw[Bool.and_eq_true,decide_eq_true_eq,decide_eq_true_eq]
  exact⟨h1,h2⟩
theorem ZfL {w l:List Nat}:infB w l=false↔¬Inf w l:=by rw[←Za5,Bool.not_eq_true]
theorem Zip (w l:List Nat):(!(Builtin.Str.occurrences ⟨l.toArray⟩ ⟨w.toArray⟩ 0 (⟨l.toArray⟩:Str).length 1).isEmpty)=infB w l:=by
 rw[Bool.eq_iff_iff,StrLaws.found_iff,Za5]
 exact⟨fun ⟨i,h⟩=>⟨i,(ZdV l w i).mp h⟩,fun ⟨i,h⟩=>⟨i,(ZdV l w i).mpr h⟩⟩
section
variable {X:Cx}
theorem ZfA:OpR X (compareOp .In) (fun x y H Q=>∃w l,x=tx w∧y=tx l∧Q (.bl (infB w l)) H):=by
 rintro pins s σ H x y v u Q I rx ry ⟨w,l,rfl,rfl,q⟩
 refine Zea pins s σ H _ _ v u Q I rx ry ⟨_,_,rfl,rfl,?_⟩
 rw[Zip];exact q
end
end L2
namespace L2
open PySem PySem.Spec PyProof.Rows
section
variable {X:Cx}
theorem ZhG (hc:X.calm=true):ZbC X (.builtin "any") (fun xs H Q=>∃(a:Addr) (bs:List Bool),xs=[.ref a]∧H a=some (.lst (bs.map V.bl))∧Q (.bl (bs.any id)) H):=by
 rintro pins s σ H xs us Q I r ⟨a,bs,rfl,ha,q⟩
 obtain⟨u,rfl,ru⟩:=r.one
 cases ru
 obtain⟨_,its,n,r',hlen,e⟩:=I.lstM ha
 have hl:s.heap.IsList a its.toArray:=PySem.IsL.isList e
 have hne:a≠s.heap.objs.size:=Nat.ne_of_lt (Heap.lt_size e)
 refine call_any_walkS (wpAny_pyIter_list hl ?_)
 have hL:its.toArray.size=bs.length:=by rw[List.size_toArray,←r'.length,List.length_map]
 have W:=(Walks.list (prog:=X.prog) (w:=X.w) (A:=X.A.in1) (by simpa using I.ok.hd hc) s.heap.objs.size a hne its.toArray).toS
 refine⟨s.heap.objs.size,_,_,_,_,_,_,fun i=>bs.getD i true,rfl,W,⟨⟨_,Heap.get?_push_size _ rfl,rfl,rfl⟩,hl.push _⟩,?_,fun s' hm=>?_⟩
 ·intro i v s Q E hv hQ
  have e':its[i]?=some v:=by simpa using hv
  obtain⟨x,hx,rx⟩:=ZeL r' e'
  rw[List.getElem?_map]at hx
  cases hb:bs[i]? with
  | none=>rw[hb]at hx;cases hx
  | some b=>
   rw[hb]at hx
   cases hx
   obtain rfl:v=Value.bool b:=rx
   have:bs.getD i true=b:=by rw[List.getD_eq_getElem?_getD,hb];rfl
   have hQ':Q (bs.getD i true) s:=hQ
   rw[this]at hQ'
   exact wpAny_truthy_bool hQ'
 ·have ea:(List.range its.toArray.size).any (fun i=>bs.getD i true)=bs.any id:=by
   rw[hL]
   rw[Bool.eq_iff_iff,List.any_eq_true,List.any_eq_true]
   constructor
   ·rintro⟨i,hi,h⟩
    have hi:=List.mem_range.mp hi
    rw[List.getD_eq_getElem?_getD,List.getElem?_eq_getElem hi]at h
    exact⟨_,List.getElem_mem hi,h⟩
   ·rintro⟨b,hb,h⟩
    obtain⟨i,hi,rfl⟩:=List.getElem_of_mem hb
    refine⟨i,List.mem_range.mpr hi,?_⟩
    rw[List.getD_eq_getElem?_getD,List.getElem?_eq_getElem hi]
    exact h
  rw[ea]
  have I2:Inv X pins σ H s':=I.call' (ch:=[]) hm.os (Un.kept fun b o q=>hm.heap b o (fun z=>?_) (Heap.get?_push_of_some _ q)) (I.hok.kept fun b o q=>hm.heap b o (fun z=>?_) (Heap.get?_push_of_some _ q)) (by rw[show s'.gens=s.gens from hm.gens];exact I.bare) (fun b hb=>by cases hb)
  ·exact⟨.bl _,H,I2,rfl,q⟩
  ·have z:b=s.heap.objs.size:=by simpa using z
   rw[z]at q;exact absurd (Heap.lt_size q) (Nat.lt_irrefl _)
  ·have z:b=s.heap.objs.size:=by simpa using z
   rw[z]at q;exact absurd (Heap.lt_size q) (Nat.lt_irrefl _)
end
section
variable {X:Cx}{pins:List (Addr×Obj)}{σ:St}{H:Hp}{s:Shared}{a b:Addr}{kvs more:List (Key×V)}{A:Around}{E:Value→Shared→Prop}
theorem Ziy {Q:Value→Shared→Prop}(I:Inv X pins σ H s)(e:H a=some (.dK kvs))(e2:H b=some (.dK more))(ne:a≠b)(hz:kvs.length+more.length≤sizeLine)(h:∀s',Inv X pins σ (upd H a (.dK (ZaD kvs more))) s'→Q .none s'):
  wpAny (model X.prog X.w) A (call (.builtin "dict.update") [.ref a,.ref b]) Q E s:=by
 obtain⟨z,hd,vs,rel,dd⟩:=Zgs I.hok e
 obtain⟨z2,hd2,vs2,rel2,dd2⟩:=Zgs I.hok e2
 have l1:=rel.length
 have l2:=rel2.length
 refine call_meetsIn PySem.F.slot_dict_update dd.typeIs PySem.F.entry_dict_update (PySem.F.args_dict_update_2 _ _) (meets_dict_update (Zao X.prog X.w) a b ne hd2) ⟨vs,vs2,dd,dd2,by omega,fun h' dd' dd2' hs=>h _ ?_⟩
 have he:∃q,h'.get? a=some q:=let ⟨q,_,_,hq,_⟩:=dd';⟨q,hq⟩
 exact ZcK (t':=s.toks) I (by rw[e];exact True.intro) hs he (Zes (Nat.le_trans (ZaL more kvs) hz) hd (rel2.merge rel) dd')
def Zky (td ty:TE):TE:=fun σ H Q=>td σ H fun x H1=>∃a,x=.ref a∧IsD H1 a∧ty σ H1 fun y H2=>∃b kvs more,y=.ref b∧H2 a=some (.dK kvs)∧H2 b=some (.dK more)∧a≠b∧kvs.length+more.length≤sizeLine∧Q .non (upd H2 a (.dK (ZaD kvs more)))
theorem Zf9 {o e:Expr} {td ty:TE} {apos cpos:Pos} (ho:PE X o td) (he:PE X e ty) (m:M1 X o "update" apos e cpos):PE X (.Call (.Attribute o "update" apos) [e] [] cpos) (Zky td ty):=by
 intro pins s σ H Q I h
 refine wpAny_Call_method m.base m.few m.line PySem.F.plainAttrs_dict PySem.F.slot_dict_update PySem.F.type_dict_update (thn (ho pins s σ H _ I h) fun u s1 ⟨x,H1,I1,rx,a,ex,d,q1⟩=>?_)
 subst ex
 obtain rfl:u=Value.ref a:=rx
 obtain⟨t1,t2,_⟩:=Zhp I1 d
 refine⟨t1,t2,?_⟩
 rw[m.trees]
 refine Calls.callWith_builtin rfl (Calls.evalArgs_plain (Calls.spliced_cons (thn (he pins s1 σ H1 _ I1 q1) fun iv s2 ⟨y,H2,I2,ry,b,kvs,more,ey,ea,eb,ne,hz,q2⟩=>Calls.spliced_nil ?_)))
 subst ey
 obtain rfl:iv=Value.ref b:=ry
 exact Ziy I2 ea eb ne hz fun s3 I3=>⟨.non,_,I3,rfl,q2⟩
end
section
variable {prog:Program}{w:World}{A:Around}{E:Value→Shared→Prop}{s:Shared}{l I S:Addr}{ns:List Int}{vs:List Value}{R:Result→Shared→Prop}{Q:Value→Shared→Prop}{d:Value}
end
section
variable {X:Cx}{e:Expr}{ta:TA}{p p2 pos kpos:Pos}
def ZmK (n:Int):List V→Hp→VK→Prop:=fun xs H Q=>∃a ns,xs=[.ref a]∧H a=some (.lst (ns.map V.int))∧∀r,(ns=[]→r=n)→(ns≠[]→r∈ns)→(∀x∈ns,x≤r)→Q (.int r) H
end
theorem ZeY:mroOf (.type "dict")=pure [.type "dict",.type "object"]:=by rw[mroOf_type];kernel_rfl
theorem ZcU:typeLookup (.type "dict") "__new__"=pure (some (.builtin "dict.__new__")):=by rw[typeLookup_type,builtinLookup_eq_fast];kernel_rfl
theorem Zgu:TypeCalled "dict" "dict.__new__" "dict.__init__":=
 ⟨by decide +kernel,by decide +kernel,⟨_,_,ZeY⟩,madeBy_type ZeY ZcU (by decide +kernel),by decide +kernel,by rw[isSubtype_type];kernel_rfl,F.slot_dict_init⟩
theorem ZdS (a:Value):checkTypeCall "dict" ⟨[a],[]⟩=pure ():=by kernel_rfl
theorem ZeX (a:Value):checkBuiltinCall "dict.__new__" ⟨[.type "dict",a],[]⟩=pure ():=by kernel_rfl
theorem ZdG:entryFor table "dict.__new__"=some Builtin.«dict.__new__»:=entryFor_of_tree (by kernel_rfl)
theorem ZbO:plainId "dict.__new__"=true:=by decide +kernel
theorem ZbF:entryFor table "dict.update.loop"=some Builtin.«dict.update.loop»:=entryFor_of_tree (by kernel_rfl)
theorem Za0:plainId "dict.update.loop"=true:=by decide +kernel
theorem ZdU:isSubtype (.type "dict") (.type "dict")=pure true:=by rw[isSubtype_type];kernel_rfl
theorem Zha:typeLookup (.type "list") "keys"=pure none:=by rw[typeLookup_type,builtinLookup_eq_fast];kernel_rfl
abbrev noDct:Obj:={ cls:=.type "dict",data:=.dict #[] }
section
variable {prog:Program}{w:World}{A:Around}{E:Value→Shared→Prop}{s:Shared}
theorem Zj3 (a:Value){Q₁:Value→Shared→Prop}(h:Q₁ (.ref s.heap.objs.size) { s with heap:=s.heap.push noDct }):
  codeAny (model prog w) A (.call (.builtin "dict.__new__") ⟨[.type "dict",a],[]⟩) (wants Q₁ E) s:=by
 refine codeAny_of_tree ?_
 show wpAny _ A.in1 (checkBuiltinCall "dict.__new__" ⟨[.type "dict",a],[]⟩ >>= fun _=>again (.builtin "dict.__new__" ⟨[.type "dict",a],[]⟩)) _ _ s
 refine wpAny_bind (wpAny_of_eq (ZeX a) (wpAny_pure ⟨plainId_quiet ZbO _,codeAny_builtin ZdG ?_⟩))
 rw[Around.under_plainId ZbO _]
 unfold Builtin.«dict.__new__»
 have hsub:=ZdU
 have hmro:=ZeY
 obtain⟨hp,g,d,tk,os⟩:=s
 dsimp only
 wp_walk
 exact h
theorem Zhb {a:Addr} {o:Obj} {xs:Array Value} {k:Nat} {Q:Option Value→Shared→Prop} (hx:s.heap.get? a=some o) (hc:o.cls=.type "list") (hdat:o.data=.seq xs k) (hd:o.dict=none) (hA:A.handled=none)
  (h:∀h' tk,(∀b ob,s.heap.get? b=some ob→h'.get? b=some ob)→Q none { s with heap:=h',toks:=tk }):
  wpAny (model prog w) A (getAttr? (.ref a) "keys") Q E s:=by
 obtain⟨c,dct,dat,sl⟩:=o
 simp only at hc hdat hd
 subst hc hdat hd
 obtain⟨hp,g,d,tk,os⟩:=s
 have hT:∀tk',(⟨hp,g,d,tk',os⟩:Shared).TypeIs (.ref a) "list":=fun _=>⟨_,hx,rfl⟩
 have f1:=sub_AttributeError
 have f3:=F.slot_list_getattribute.lookup
 have f4:=F.slot_list_getattribute.bind (.ref a)
 have f5:=am_list_getattr_none
 unfold getAttr? getAttrBy? getAttrBy
 repeat (any_goals (first | assumption | exact hT _ | ((with_reducible show wpAny _ _ (call (Value.builtin "list.__getattribute__") _ _) _ _ _);refine call_meets F.slot_list_getattribute (hT _) am_entry_list_getattribute (F.args_list_getattribute_2 _ _) (meets_getattribute_miss_list a xs k sl "keys" _ Zha (by decide +kernel)) ⟨hx,hA,fun h' tk' e hx'=>?_⟩) | wp_step))
 obtain⟨t',u',he⟩:=hx'.there
 show wpAny _ _ (getattributeRaised _ _ _ _ _ _ _) _ _ _
 unfold getattributeRaised
 repeat (any_goals (first | assumption | wp_step))
 exact h _ _ hx'.keeps
def PairAt (P:Program)(w:World)(h:Heap)(u:Value)(x:Key×Value):Prop:=∃b kv,u=.ref b∧h.IsTuple b #[kv,x.2]∧(Zao P w).is x.1 kv=true
theorem PairAt.keep {h h':Heap}{u:Value}{x:Key×Value}{d It l:Addr}{i:Nat}{kvs:List (Key×Value)}(p:PairAt prog w h u x)(hd:h.DictOf (Zao prog w) d kvs)(hi:h.IsListIter It l i)(k:∀b o,b≠d→b≠It→h.get? b=some o→h'.get? b=some o):PairAt prog w h' u x:=by
 obtain⟨b,kv,rfl,⟨o,ho,hc,r⟩,hk⟩:=p
 obtain⟨od,_,_,hod,hcd,_⟩:=hd
 obtain⟨oi,hoi,hci,_⟩:=hi
 refine⟨b,kv,rfl,⟨o,k b o (fun z=>?_) (fun z=>?_) ho,hc,r⟩,hk⟩
 ·subst z
  rw[ho]at hod
  cases hod
  have:=hcd.1
  rw[hc]at this
  exact absurd this (by decide)
 ·subst z
  rw[ho]at hoi
  cases hoi
  rw[hc]at hci
  exact absurd hci (by decide)
theorem Zdx (kvs:List (Key×Value))(k:Key)(v:Value):(stored kvs k v).length≤kvs.length+1:=by
 unfold stored
 split<;>simp
theorem Ziw {R:Result→Shared→Prop}{l It d:Addr}{us:List Value}(hh:A.handled=none)(n1:It≠d)(n2:l≠d)(n3:l≠It):∀(xs:List (Key×Value)) (i:Nat) (n:Int) (tk:Tok) (s:Shared) (kvs:List (Key×Value)),i+xs.length=us.length →
  (∀j x,xs[j]?=some x→∃u,us[i+j]?=some u∧PairAt prog w s.heap u x)→s.heap.IsListIter It l i→s.heap.IsList l us.toArray→s.heap.DictOf (Zao prog w) d kvs→kvs.length+xs.length≤sizeLine →
  (∀h' tk',(∀b o,b≠d→b≠It→s.heap.get? b=some o→h'.get? b=some o)→h'.DictOf (Zao prog w) d (xs.foldl (fun a x=>stored a x.1 x.2) kvs)→R (.ok (.ret .none)) { s with heap:=h',toks:=tk' }) →
  codeAny (model prog w) A (.builtin "dict.update.loop" ⟨[.ref d,.ref It,.int n tk,.none],[]⟩) R s:=by
 intro xs
 induction xs with
 | nil=>
  intro i n tk s kvs hl hx hi hL hD hz hR
  refine codeAny_builtin ZbF ?_
  rw[Around.under_plainId Za0 _]
  show wpAny _ A.in1 (pyNext (.ref It) >>= fun r=>_) _ _ s
  refine wpAny_bind (wpAny_pyNext_list_end (by simp[hh]) hi hL (by simp at hl;simp[hl]) fun h' eb=>?_)
  dsimp only
  unfold Builtin.Dict.addKeywords
  wp_walk
  exact hR h' _ (fun b o hb hi e=>eb b o hi e) (hD.extBut eb (Ne.symm n1))
 | cons x xs ih=>
  intro i n tk s kvs hl hx hi hL hD hz hR
  refine codeAny_builtin ZbF ?_
  rw[Around.under_plainId Za0 _]
  show wpAny _ A.in1 (pyNext (.ref It) >>= fun r=>_) _ _ s
  obtain⟨u,hu,pu⟩:=hx 0 x rfl
  refine wpAny_bind (wpAny_pyNext_list_item hi hL (x:=u) (by simpa using hu) fun h1 hi1 sb1=>?_)
  have pu1:=pu.keep hD hi (h':=h1) (fun b o _ hb e=>(sb1.2 b hb).trans e)
  obtain⟨b,kv,rfl,hb,hk⟩:=pu1
  have hT:Shared.TypeIs { s with heap:=h1 } (.ref b) "tuple":=hb.typeIs
  have hD1:h1.DictOf (Zao prog w) d kvs:=hD.sameBut sb1 (Ne.symm n1)
  have hL1:h1.IsList l us.toArray:=(let ⟨o,ho,r⟩:=hL;⟨o,(sb1.2 l n3).trans ho,r⟩)
  dsimp only
  refine wpAny_bind (wpAny_holding (wpAny_bind (wpAny_tryCatch ?_)))
  unfold Builtin.Dict.pairItems
  refine wpAny_bind (wpAny_typeOf hT ?_)
  rw[if_pos (by decide)]
  obtain⟨o,ho,hc,nn,hd⟩:=hb
  refine wpAny_bind (wpAny_seqItems ho hd (wpAny_pure ?_))
  show wpAny _ _ (holding [kv,x.2] (dictSet d kv x.2)) _ _ _
  have hz':kvs.length+(xs.length+1)≤sizeLine:=hz
  refine wpAny_holding (wpAny_dictSet_pairs hk hD1 (fun h2 hD2 sb2=>?_) (hsz:=by omega))
  have k2:∀b o,b≠d→b≠It→s.heap.get? b=some o→h2.get? b=some o:=fun b o z1 z2 e=>(sb2.2 b z1).trans ((sb1.2 b z2).trans e)
  refine wpAny_pure ⟨plainId_quiet Za0 _,ih (i+1) _ _ _ _ (by have:i+(xs.length+1)=us.length:=hl;omega) (fun j y hy=>?_) ?_ ?_ hD2 ?_ (fun h' tk' kp hD'=>hR h' tk' (fun b o z1 z2 e=>kp b o z1 z2 (k2 b o z1 z2 e)) hD')⟩
  ·obtain⟨u2,hu2,p2⟩:=hx (j+1) y hy
   exact⟨u2,by rw[←hu2];congr 1;omega,p2.keep hD hi k2⟩
  ·obtain⟨oi,hoi,r⟩:=hi1
   exact⟨oi,(sb2.2 It n1).trans hoi,r⟩
  ·obtain⟨ol,hol,r⟩:=hL1
   exact⟨ol,(sb2.2 l n2).trans hol,r⟩
  ·have:=Zdx kvs x.1 x.2
   omega
theorem Zix {a:Addr} {us:List Value} {o:Obj} {nn:Nat} {xs:List (Key×Value)} {Q:Value→Shared→Prop} (hh:A.handled=none) (ho:s.heap.get? a=some o) (hc:o.cls=.type "list") (hdat:o.data=.seq us.toArray nn) (hd:o.dict=none) (hl:us.length=xs.length)
  (hx:∀(j:Nat) (x:Key×Value),xs[j]?=some x→∃u,us[j]?=some u∧PairAt prog w s.heap u x) (hz:xs.length≤sizeLine)
  (h:∀h' tk',(∀b o,s.heap.get? b=some o→h'.get? b=some o)→h'.DictOf (Zao prog w) s.heap.objs.size (xs.foldl (fun a x=>stored a x.1 x.2) [])→Q (.ref s.heap.objs.size) { s with heap:=h',toks:=tk' }):
  wpAny (model prog w) A (call (.type "dict") [.ref a]) Q E s:=by
 refine callType_codes (Q₁:=fun obj s₁=>obj=.ref s.heap.objs.size∧s₁={ s with heap:=s.heap.push noDct }) Zgu (ZdS _) F.entry_dict_init (Zj3 _ ⟨rfl,rfl⟩) fun obj s₁ h₁=>?_
 obtain⟨rfl,rfl⟩:=h₁
 have lt:=Heap.lt_size ho
 have hS:(s.heap.push noDct).get? s.heap.objs.size=some noDct:=Heap.get?_push_size _ rfl
 have hT:Shared.TypeIs { s with heap:=s.heap.push noDct } (.ref s.heap.objs.size) "dict":=⟨_,hS,rfl⟩
 refine⟨hT,F.args_dict_init_2 _ _,?_⟩
 unfold Builtin.«dict.__init__» Builtin.Dict.selfAndRest
 refine wpAny_bind (wpAny_bind (wpAny_notOrdered_dict hT ?_))
 show wpAny _ _ (pure (s.heap.objs.size,[Value.ref a])) _ _ _
 refine wpAny_pure ?_
 show wpAny _ _ (Builtin.Dict.updateFrom "dict.__init__" s.heap.objs.size (.ref a) [] .none) _ _ _
 unfold Builtin.Dict.updateFrom
 have ho1:(s.heap.push noDct).get? a=some o:=Heap.get?_push_of_some _ ho
 have hTl:Shared.TypeIs { s with heap:=s.heap.push noDct } (.ref a) "list":=⟨_,ho1,hc⟩
 refine wpAny_bind (wpAny_typeOf hTl ?_)
 rw[if_pos (by decide)]
 refine wpAny_bind (Zhb ho1 hc hdat hd (by simp[hh]) fun h2 tk2 k2=>?_)
 rw[if_pos (show (none:Option Value).isNone=true from rfl)]
 refine wpAny_bind (wpAny_rule ?_)
 have hL2:h2.IsList a us.toArray:=⟨o,k2 _ _ ho1,hc,nn,hdat⟩
 have lt2:s.heap.objs.size<h2.objs.size:=Heap.lt_size (k2 _ _ hS)
 have la2:a<h2.objs.size:=Heap.lt_size (k2 _ _ ho1)
 show wpAny _ _ (pyIter (.ref a) >>= fun it=>again (.builtin "dict.update.loop" ⟨[.ref s.heap.objs.size,it,rawInt 0,.none],[]⟩)) _ _ _
 refine wpAny_bind (wpAny_pyIter_list hL2 ?_)
 have k3:∀b o,s.heap.get? b=some o→(h2.push { cls:=.type "list_iterator",data:=.fields #[.ref a,.int 0 0] }).get? b=some o:=fun b o e=>Heap.get?_push_of_some _ (k2 b o (Heap.get?_push_of_some _ e))
 have hD3:(h2.push { cls:=.type "list_iterator",data:=.fields #[.ref a,.int 0 0] }).DictOf (Zao prog w) s.heap.objs.size []:=by
  obtain⟨od,es,ep,hod,r⟩:=Heap.DictOf.new (knd:=Zao prog w) s.heap
  exact⟨od,es,ep,Heap.get?_push_of_some _ (k2 _ _ hod),r⟩
 refine wpAny_pure ⟨plainId_quiet Za0 _,Ziw (by simp[hh]) (Nat.ne_of_gt lt2) (Nat.ne_of_lt lt) (Nat.ne_of_lt la2) xs 0 _ _ _ [] (by rw[hl];simp) (fun j x hj=>?_) ⟨_,Heap.get?_push_size _ rfl,rfl,rfl⟩ (hL2.push _) hD3 (by simpa using hz) fun h' tk' kp hD'=>?_⟩
 ·obtain⟨u,hu,b,kv,rfl,⟨ob,hob,r⟩,hk⟩:=hx j x hj
  exact⟨_,by simpa using hu,b,kv,rfl,⟨ob,k3 _ _ hob,r⟩,hk⟩
 ·refine⟨rfl,h h' tk' (fun b o e=>kp b o (Nat.ne_of_lt (Heap.lt_size e)) (fun z=>?_) (k3 b o e)) hD'⟩
  have z1:=Heap.lt_size e
  rw[z]at z1
  exact absurd (Nat.lt_trans z1 lt2) (Nat.lt_irrefl _)
end
section
variable {X:Cx}
def Zi8 (H:Hp)(ys:List V)(xs:List (Key×V)):Prop:=ys.length=xs.length∧∀(i:Nat) (y:V),ys[i]?=some y→∃(x:Key×V) (b:Addr),xs[i]?=some x∧y=.ref b∧H b=some (.tup [kV x.1,x.2])
def rDct:List V→Hp→VK→Prop:=fun vs H Q=>∃p ys xs,vs=[.ref p]∧H p=some (.lst ys)∧Zi8 H ys xs∧∀d,H d=none→Q (.ref d) (upd H d (.dK (ZaD [] xs)))
theorem Zfz {pins:List (Addr×Obj)}{σ:St}{H:Hp}{s:Shared}(I:Inv X pins σ H s):∀(xs:List (Key×V)) (ys:List V) (its:List Value),Vals ys its→Zi8 H ys xs→∃vs:List (Key×Value),KV xs vs∧∀(j:Nat) (x:Key×Value),vs[j]?=some x→∃u,its[j]?=some u∧PairAt X.prog X.w s.heap u x
 | [],ys,its,r,⟨hl,hx⟩=>⟨[],.nil,fun j x h=>by simp at h⟩
 | x::xs,ys,its,r,⟨hl,hx⟩=>by
  cases r with
  | nil=>simp at hl
  | @cons y u ys its ry r=>
   obtain⟨x',b,e1,rfl,hb⟩:=hx 0 y rfl
   cases e1
   obtain rfl:u=Value.ref b:=ry
   obtain⟨its2,r2,hT,_⟩:=I.tuple (a:=b) (xs:=[kV x.1,x.2]) (.inl (.inl hb))
   obtain⟨k',v',rfl,rk,rv⟩:∃k' v',its2=[k',v']∧RelV (kV x.1) k'∧RelV x.2 v':=by
    cases r2 with
    | cons p q=>
     cases q with
     | cons p' q'=>cases q';exact⟨_,_,rfl,p,p'⟩
   obtain⟨vs,hv,hp⟩:=Zfz I xs ys its r ⟨by simpa using hl,fun i z hz=>by
    obtain⟨x2,b2,h1,h2⟩:=hx (i+1) z hz
    exact⟨x2,b2,h1,h2⟩⟩
   refine⟨(x.1,v')::vs,.cons ⟨rfl,rv⟩ hv,fun j z hz=>?_⟩
   cases j with
   | zero=>
    cases hz
    exact⟨_,rfl,b,k',rfl,hT,ZcW rk⟩
   | succ j=>exact hp j z hz
theorem ZiB (hc:X.calm=true):ZbC X (.type "dict") rDct:=by
 rintro pins s σ H vs us Q I r ⟨p,ys,xs,rfl,hp,hx,q⟩
 obtain⟨u,rfl,ru⟩:=r.one
 cases ru
 obtain⟨its,rv,⟨o,n,ho,hcl,hd,hs⟩,hz⟩:=I.list (a:=p) (xs:=ys) (.inl (.inl hp))
 obtain⟨vs,hv,hP⟩:=Zfz I xs ys its rv hx
 have l1:=rv.length
 have l2:=hv.length
 have l3:=hx.1
 refine Zix (I.ok.hd hc) ho hcl hs hd (by omega) hP (by omega) fun h' tk' kp hD=>?_
 refine⟨.ref s.heap.objs.size,_,I.laid (t':=tk') kp (Nat.le_refl _) (Zes (kvs:=ZaD [] xs) ?_ ?_ (KV.merge hv .nil) hD),rfl,q _ I.fresh⟩
 ·have:=ZaL xs []
  simp only[List.length_nil]at this
  omega
 ·exact beq_eq_false_iff_ne.mpr (Ne.symm (Nat.ne_of_lt I.big))
end
def BefW (a b:List Nat):Prop:=a.length<b.length∨(a.length=b.length∧a<b)
theorem Zee:∀ {a b:List Nat} {x y:List Nat},a.length=b.length→a<b→a++x<b++y
 | [],[],_,_,_,h=>by cases h
 | [],_::_,_,_,e,_=>by simp at e
 | _::_,[],_,_,e,_=>by simp at e
 | c::a,d::b,x,y,e,h=>by
  rw[List.cons_append,List.cons_append]
  cases h with
  | rel h=>exact List.Lex.rel h
  | cons h=>exact List.Lex.cons (Zee (by simpa using e) h)
theorem Zhc:∀(a:List Nat) {c d:Nat},c<d→a++[c]<a++[d]
 | [],_,_,h=>List.Lex.rel h
 | _::a,_,_,h=>List.Lex.cons (Zhc a h)
theorem ZiN:∀(a b:List Nat),a<b∨a=b∨b<a
 | [],[]=>.inr (.inl rfl)
 | [],_::_=>.inl .nil
 | _::_,[]=>.inr (.inr .nil)
 | c::a,d::b=>by
  rcases Nat.lt_trichotomy c d with h | h | h
  ·exact .inl (List.Lex.rel h)
  ·subst h
   rcases ZiN a b with h | h | h
   ·exact .inl (List.Lex.cons h)
   ·exact .inr (.inl (by rw[h]))
   ·exact .inr (.inr (List.Lex.cons h))
  ·exact .inr (.inr (List.Lex.rel h))
theorem ZdQ (l:List Nat)(n:Nat):(wordsOf l n).Pairwise (· < ·):=by
 have h1:(wordsOf l n).Pairwise (fun a b=>leT a b=true):=Zba _
 have h2:(wordsOf l n).Nodup:=(ZaK _).nodup_iff.mpr (by rw[←Zfa];exact Zcg _)
 refine(h1.and h2).imp ?_
 rintro a b ⟨x,y⟩
 have x':¬b<a:=by simpa [leT] using x
 rcases ZiN a b with z | z | z
 ·exact z
 ·exact absurd z y
 ·exact absurd z x'
theorem Ze2 {l m:List Nat}(hm:m.Pairwise (· < ·)):(Za3 l m).Pairwise BefW:=by
 unfold Za3 ZbW
 have len:∀k w,k≤l.length→w∈ZcV (wordsOf l k) (wordsOf l (k+1)) m→w.length=k+1:=fun k w hk hw=>by
  obtain⟨h,c,h1,_,rfl,_⟩:=Zcx.mp hw
  rw[ZaF (by omega)]at h1
  rw[List.length_append,h1.1];rfl
 rw[List.pairwise_flatMap]
 refine⟨fun k hk=>?_,?_⟩
 ·have hk:=List.mem_range.mp hk
  unfold ZcV
  rw[List.pairwise_flatMap]
  refine⟨fun h hh=>?_,?_⟩
  ·unfold ZdB
   rw[List.pairwise_map]
   exact(hm.filter _).imp fun {c d} hcd=>.inr ⟨by simp,Zhc h hcd⟩
  ·refine List.Pairwise.imp_of_mem ?_ (ZdQ l k)
   intro a b ha hb hab x hx y hy
   have la:=((ZaF (l:=l) (by omega)).mp ha).1
   have lb:=((ZaF (l:=l) (by omega)).mp hb).1
   unfold ZdB at hx hy
   obtain⟨c,_,rfl⟩:=List.mem_map.mp hx
   obtain⟨d,_,rfl⟩:=List.mem_map.mp hy
   exact .inr ⟨by simp[la,lb],Zee (by rw[la,lb]) hab⟩
 ·refine List.Pairwise.imp_of_mem ?_ List.pairwise_lt_range
  intro i j hi hj hij x hx y hy
  have hi:=List.mem_range.mp hi
  have hj:=List.mem_range.mp hj
  exact .inl (by rw[len i x (by omega) hx,len j y (by omega) hy];omega)
theorem ZiC {a:List Nat}:¬BefW a a:=fun h=>h.elim (fun h=>Nat.lt_irrefl _ h) fun h=>List.lt_irrefl _ h.2
theorem Zb5 {l m:List Nat}(hm:m.Pairwise (· < ·)):(Za3 l m).Nodup:=by
 unfold List.Nodup
 exact(Ze2 hm).imp fun {a b} h e=>by subst e;exact ZiC h
theorem Zeb {α:Type}[DecidableEq α]:∀(l m:List α),l.Nodup→(∀x∈l,x∈m)→l.length≤m.length
 | [],m,_,_=>Nat.zero_le _
 | x::l,m,nd,h=>by
  have hx:=h x List.mem_cons_self
  have nd':=List.nodup_cons.mp nd
  have:=Zeb l (m.erase x) nd'.2 fun y hy=>(List.mem_erase_of_ne (fun e=>by rw[e]at hy;exact nd'.1 hy)).mpr (h y (List.mem_cons_of_mem _ hy))
  rw[List.length_erase_of_mem hx]at this
  have pos:0<m.length:=List.length_pos_of_mem hx
  rw[List.length_cons]
  omega
theorem Zgq {l u v:List Nat}{i j:Nat}(hu:AtW l u i)(hv:AtW l v j)(e:i+u.length=j+v.length)(hl:v.length≤u.length):v=u.drop (u.length-v.length):=by
 obtain⟨a1,a2⟩:=hu
 obtain⟨b1,b2⟩:=hv
 have hj:j=i+(u.length-v.length):=by omega
 rw[←a2,List.length_take,List.length_drop,Nat.min_eq_left (by omega),List.drop_take,List.drop_drop,←hj]
 rw[show u.length-(u.length-v.length)=v.length by omega]
 exact b2.symm
theorem Zit {u l:List Nat}(h:Inf u l)(k:Nat):Inf (u.drop k) l:=by
 obtain⟨i,h1,h2⟩:=h
 by_cases hk:k≤u.length
 ·refine⟨i+k,by rw[List.length_drop];omega,?_⟩
  rw[List.length_drop]
  have:(l.drop (i+k)).take (u.length-k)=((l.drop i).take u.length).drop k:=by rw[List.drop_take,List.drop_drop]
  rw[this,h2]
 ·rw[List.drop_eq_nil_of_le (by omega)];exact Inf.nil l
theorem Zc7 {w:List Nat}{c:Nat}(h:w.getLast?=some c):w=w.dropLast++[c]:=by
 have ne:w≠[]:=fun e=>by rw[e]at h;cases h
 rw[List.getLast?_eq_some_getLast ne]at h
 have h2:=List.dropLast_concat_getLast ne
 rw[Option.some.inj h]at h2
 exact h2.symm
theorem ZfD {l w v:List Nat}{c i j:Nat}(hw:Miss l w)(hv:Miss l v)(cw:w.getLast?=some c)(cv:v.getLast?=some c)(iw:AtW l w.dropLast i)(jv:AtW l v.dropLast j)(e:i+w.dropLast.length=j+v.dropLast.length)(hl:v.length≤w.length):v=w:=by
 have ew:=Zc7 cw
 have ev:=Zc7 cv
 have lw:w.dropLast.length=w.length-1:=List.length_dropLast
 have lv:v.dropLast.length=v.length-1:=List.length_dropLast
 have w1:1≤w.length:=List.length_pos_iff.mpr hw.ne
 have v1:1≤v.length:=List.length_pos_iff.mpr hv.ne
 have s:=Zgq iw jv e (by omega)
 rw[show w.dropLast.length-v.dropLast.length=w.length-v.length by omega]at s
 have h2:(w.dropLast++[c]).drop (w.length-v.length)=w.dropLast.drop (w.length-v.length)++[c]:=List.drop_append_of_le_length (by omega)
 have vs:v=w.drop (w.length-v.length):=by
  have h3:v.dropLast++[c]=w.dropLast.drop (w.length-v.length)++[c]:=congrArg (·++[c]) s
  rw[←h2,←ew,←ev]at h3
  exact h3
 by_cases eq:v.length=w.length
 ·rw[vs,eq,Nat.sub_self];rfl
 ·exfalso
  apply hv.no
  have:v=w.tail.drop (w.length-v.length-1):=by
   rw[←List.drop_one,List.drop_drop,show 1+(w.length-v.length-1)=w.length-v.length by omega]
   exact vs
  rw[this]
  exact Zit hw.tail _
def endOf (l w:List Nat):Nat:=((List.range (l.length+1)).find? fun e=>(List.range (l.length+1)).any fun i=>decide (i+w.dropLast.length=e)&&decide (i+w.dropLast.length≤l.length)&&decide ((l.drop i).take w.dropLast.length=w.dropLast)).getD 0
theorem ZdH {l w:List Nat}(h:Inf w.dropLast l):∃i,AtW l w.dropLast i∧endOf l w=i+w.dropLast.length:=by
 unfold endOf
 cases f:(List.range (l.length+1)).find? fun e=>(List.range (l.length+1)).any fun i=>decide (i+w.dropLast.length=e)&&decide (i+w.dropLast.length≤l.length)&&decide ((l.drop i).take w.dropLast.length=w.dropLast) with
 | none=>
  obtain⟨i,h1,h2⟩:=h
  have:=List.find?_eq_none.mp f (i+w.dropLast.length) (List.mem_range.mpr (by omega))
  exfalso
  apply this
  rw[List.any_eq_true]
  exact⟨i,List.mem_range.mpr (by omega),by rw[decide_eq_true rfl,decide_eq_true h1,decide_eq_true h2];rfl⟩
 | some e=>
  have:=List.find?_some f
  rw[List.any_eq_true]at this
  obtain⟨i,_,hi⟩:=this
  simp only[Bool.and_eq_true,decide_eq_true_iff]at hi
  exact⟨i,⟨hi.1.2,hi.2⟩,hi.1.1.symm⟩
theorem Zbs {α β:Type}{f:α→β}:∀ {l:List α},l.Nodup→(∀x∈l,∀y∈l,f x=f y→x=y)→(l.map f).Nodup
 | [],_,_=>by simp
 | x::l,nd,h=>by
  have nd':=List.nodup_cons.mp nd
  rw[List.map_cons,List.nodup_cons]
  refine⟨fun z=>?_,Zbs nd'.2 fun a ha b hb=>h a (List.mem_cons_of_mem _ ha) b (List.mem_cons_of_mem _ hb)⟩
  obtain⟨y,hy,e⟩:=List.mem_map.mp z
  have:=h y (List.mem_cons_of_mem _ hy) x List.mem_cons_self e
  rw[this]at hy
  exact nd'.1 hy
theorem Zgj {l m:List Nat}(hm:m.Pairwise (· < ·)):(Za3 l m).length≤m.length*(l.length+1):=by
 have nd:=Zb5 (l:=l) hm
 have inj:∀x∈Za3 l m,∀y∈Za3 l m,(x.getLast?,endOf l x)=(y.getLast?,endOf l y)→x=y:=by
  intro x hx y hy e
  obtain⟨mx,c,hc,cx⟩:=Zax.mp hx
  obtain⟨my,d,hd,cy⟩:=Zax.mp hy
  have e1:x.getLast?=y.getLast?:=congrArg Prod.fst e
  have e2:endOf l x=endOf l y:=congrArg Prod.snd e
  obtain⟨i,hi,ei⟩:=ZdH mx.init
  obtain⟨j,hj,ej⟩:=ZdH my.init
  have cy':y.getLast?=some c:=by rw[←e1];exact cx
  rcases Nat.le_total y.length x.length with h | h
  ·exact(ZfD mx my cx cy' hi hj (by omega) h).symm
  ·exact ZfD my mx cy' cx hj hi (by omega) h
 have nd2:=Zbs (f:=fun w:List Nat=>(w.getLast?,endOf l w)) nd inj
 have h:=Zeb _ (m.flatMap fun c=>(List.range (l.length+1)).map fun e=>(some c,e)) nd2 fun p hp=>by
  obtain⟨w,hw,rfl⟩:=List.mem_map.mp hp
  obtain⟨mw,c,hc,cw⟩:=Zax.mp hw
  obtain⟨i,hi,ei⟩:=ZdH mw.init
  rw[List.mem_flatMap]
  refine⟨c,hc,List.mem_map.mpr ⟨endOf l w,List.mem_range.mpr (by have:=hi.1;omega),by rw[cw]⟩⟩
 rw[List.length_map]at h
 have e:(m.flatMap fun c=>(List.range (l.length+1)).map fun e=>(some c,e)).length=m.length*(l.length+1):=by
  rw[List.length_flatMap]
  have:(m.map fun c=>((List.range (l.length+1)).map fun e=>(some c,e)).length)=List.replicate m.length (l.length+1):=by
   apply List.ext_getElem (by simp)
   intro i h1 h2
   simp
  rw[this,List.sum_replicate_nat]
 rw[e]at h
 exact h
noncomputable def gal:Bool→Keyed→Array Keyed→Nat→Nat→Nat→StateT SortSt Sem (Option Nat):=sortPriv% PySem.Builtin.gallop
noncomputable def galB (bey:Nat→StateT SortSt Sem (Option Bool)) (n h:Nat):StateT SortSt Sem (Option Nat):=do
  let mut la:=0
  let mut o:=1
  let mut lo:=0
  let mut hi:=0
  let some rt ←bey h | return none
  if rt then
   let mx:=n-h
   for _ in [0:n] do
    if o≥mx then break
    let some mo ←bey (h+o) | return none
    if !mo then break
    la:=o
    o:=2*o+1
   lo:=h+la+1
   hi:=h+min o mx
  else
   let mx:=h+1
   for _ in [0:n] do
    if o≥mx then break
    let some fo ←bey (h-o) | return none
    if fo then break
    la:=o
    o:=2*o+1
   lo:=h+1-min o mx
   hi:=h-la
  for _ in [0:n] do
   if lo≥hi then break
   let m:=lo+(hi-lo)/2
   let some mo ←bey m | return none
   if mo then lo:=m+1 else hi:=m
  return some hi
noncomputable def beyOf (lf:Bool) (ky:Keyed) (ar:Array Keyed) (bs:Nat) (i:Nat):StateT SortSt Sem (Option Bool):=do
 let x ←elem' ar (bs+i)
 if lf then lt' x ky else return (←lt' ky x).map (!·)
theorem ZlB (lf:Bool)(ky:Keyed)(ar:Array Keyed)(bs n h:Nat):gal lf ky ar bs n h=galB (beyOf lf ky ar bs) n h:=rfl
noncomputable def galT (bey:Nat→StateT SortSt Sem (Option Bool)) (n l0 h0:Nat):StateT SortSt Sem (Option Nat):=do
  let mut lo:=l0
  let mut hi:=h0
  for _ in [0:n] do
   if lo≥hi then break
   let m:=lo+(hi-lo)/2
   let some mo ←bey m | return none
   if mo then lo:=m+1 else hi:=m
  return some hi
section
variable {M:Model}{A:Around}{E:Value→Shared→Prop}{s:Shared}{bey:Nat→StateT SortSt Sem (Option Bool)}{B:Nat→Bool}{n h:Nat}{st:SortSt}{Q:Option Nat→SortSt→Prop}
noncomputable def Parts (B:Nat→Bool) (n lo hi:Nat):Prop:=(∀i,i<lo→B i=true)∧∀i,hi≤i→i<n→B i=false
theorem ZjX {lo hi:Nat}(hb:∀i (Q:Option Bool→SortSt→Prop),i<n→Q (some (B i)) st→wpS M A E s (bey i) Q st)(mono:∀i j,i≤j→j<n→B j=true→B i=true)(h1:lo≤hi)(h2:hi≤n)(hp:Parts B n lo hi)
  (q:∀k,k≤n→Parts B n k k→Q (some k) st):wpS M A E s (galT bey n lo hi) Q st:=by
 unfold galT
 refine wpS_bind (wpS_mono (wpS_forRange (I:=fun i c st'=>st'=st∧∃lo hi,c=(none,lo,hi)∧lo≤hi∧hi≤n∧hi-lo≤n-i∧Parts B n lo hi) (Q:=fun c st'=>st'=st∧∃k,c=(none,k,k)∧k≤n∧Parts B n k k) ?step ?fin ⟨rfl,lo,hi,rfl,h1,h2,by omega,hp⟩) ?post)
 case step=>
  rintro i c st' _ hi' ⟨rfl,lo,hi,rfl,h1,h2,h3,hp⟩
  dsimp only
  by_cases hl:lo≥hi
  ·have e:lo=hi:=by omega
   subst e
   rw[if_pos hl]
   exact wpS_pure ⟨rfl,lo,rfl,h2,hp⟩
  ·rw[if_neg hl]
   have hm1:lo≤lo+(hi-lo)/2:=by omega
   have hm2:lo+(hi-lo)/2<hi:=by omega
   generalize lo+(hi-lo)/2=m at hm1 hm2
   refine wpS_bind (hb m _ (by omega) ?_)
   cases hB:B m with
   | true=>exact wpS_pure ⟨rfl,m+1,hi,rfl,by omega,h2,by omega,fun i hi=>mono i m (by omega) (by omega) hB,hp.2⟩
   | false=>
    refine wpS_pure ⟨rfl,lo,m,rfl,by omega,by omega,by omega,hp.1,fun i hi hn=>?_⟩
    cases hx:B i with
    | false=>rfl
    | true=>rw[mono m i hi hn hx]at hB;cases hB
 case fin=>
  rintro c st' ⟨rfl,lo,hi,rfl,h1,h2,h3,hp⟩
  have e:lo=hi:=by omega
  subst e
  exact⟨rfl,lo,rfl,h2,hp⟩
 case post=>
  rintro c st' ⟨rfl,k,rfl,hk,hp⟩
  exact wpS_pure (q k hk hp)
theorem ZjY (hh:h<n)
  (hb:∀i (Q:Option Bool→SortSt→Prop),i<n→Q (some (B i)) st→wpS M A E s (bey i) Q st) (mono:∀i j,i≤j→j<n→B j=true→B i=true)
  (q:∀k,k≤n→Parts B n k k→Q (some k) st):wpS M A E s (galB bey n h) Q st:=by
 have anti:∀ {i j},B i=false→i≤j→j<n→B j=false:=fun {i j} h1 h2 h3=>by
  cases hx:B j with
  | false=>rfl
  | true=>rw[mono i j h2 h3 hx]at h1;cases h1
 have jp:∀lo hi,lo≤hi→hi≤n→Parts B n lo hi→wpS M A E s (galT bey n lo hi) Q st:=fun lo hi a b c=>ZjX hb mono a b c q
 unfold galB
 refine wpS_bind (hb h _ hh ?_)
 cases hB:B h with
 | true=>
  dsimp only
  rw[if_pos rfl]
  refine wpS_bind (wpS_mono (wpS_forRange (I:=fun i c st'=>st'=st∧∃la o,c=(none,la,o)∧i<o∧la<o∧h+la<n∧B (h+la)=true) (Q:=fun c st'=>st'=st∧∃la o,c=(none,la,o)∧la<o∧h+la<n∧B (h+la)=true∧(n-h≤o∨B (h+o)=false)) ?step ?fin ⟨rfl,0,1,rfl,by omega,by omega,by omega,hB⟩) ?post)
  case step=>
   rintro i c st' _ hi' ⟨rfl,la,o,rfl,h1,h2,h3,h4⟩
   dsimp only
   by_cases hl:o≥n-h
   ·rw[if_pos hl]
    exact wpS_pure ⟨rfl,la,o,rfl,h2,h3,h4,.inl hl⟩
   ·rw[if_neg hl]
    refine wpS_bind (hb (h+o) _ (by omega) ?_)
    cases hx:B (h+o) with
    | false=>exact wpS_pure ⟨rfl,la,o,rfl,h2,h3,h4,.inr hx⟩
    | true=>exact wpS_pure ⟨rfl,o,2*o+1,rfl,by omega,by omega,by omega,hx⟩
  case fin=>
   rintro c st' ⟨rfl,la,o,rfl,h1,h2,h3,h4⟩
   exact⟨rfl,la,o,rfl,h2,h3,h4,.inl (by omega)⟩
  case post=>
   rintro c st' ⟨rfl,la,o,rfl,h2,h3,h4,h5⟩
   refine jp (h+la+1) (h+min o (n-h)) (by omega) (by omega) ⟨fun i hi=>mono i (h+la) (by omega) h3 h4,fun i hi hn=>?_⟩
   rcases h5 with h5 | h5
   ·omega
   ·exact anti h5 (by omega) hn
 | false=>
  dsimp only
  rw[if_neg Bool.false_ne_true]
  refine wpS_bind (wpS_mono (wpS_forRange (I:=fun i c st'=>st'=st∧∃la o,c=(none,la,o)∧i<o∧la<o∧la≤h∧B (h-la)=false) (Q:=fun c st'=>st'=st∧∃la o,c=(none,la,o)∧la<o∧la≤h∧B (h-la)=false∧(h+1≤o∨(o≤h∧B (h-o)=true))) ?step2 ?fin2 ⟨rfl,0,1,rfl,by omega,by omega,by omega,hB⟩) ?post2)
  case step2=>
   rintro i c st' _ hi' ⟨rfl,la,o,rfl,h1,h2,h3,h4⟩
   dsimp only
   by_cases hl:o≥h+1
   ·rw[if_pos hl]
    exact wpS_pure ⟨rfl,la,o,rfl,h2,h3,h4,.inl hl⟩
   ·rw[if_neg hl]
    refine wpS_bind (hb (h-o) _ (by omega) ?_)
    cases hx:B (h-o) with
    | true=>exact wpS_pure ⟨rfl,la,o,rfl,h2,h3,h4,.inr ⟨by omega,hx⟩⟩
    | false=>exact wpS_pure ⟨rfl,o,2*o+1,rfl,by omega,by omega,by omega,hx⟩
  case fin2=>
   rintro c st' ⟨rfl,la,o,rfl,h1,h2,h3,h4⟩
   exact⟨rfl,la,o,rfl,h2,h3,h4,.inl (by omega)⟩
  case post2=>
   rintro c st' ⟨rfl,la,o,rfl,h2,h3,h4,h5⟩
   refine jp (h+1-min o (h+1)) (h-la) (by omega) (by omega) ⟨fun i hi=>?_,fun i hi hn=>anti h4 hi hn⟩
   rcases h5 with h5 | ⟨h5,h6⟩
   ·omega
   ·exact mono i (h-o) (by omega) (by omega) h6
end
structure Cmp (D:Keyed→Prop)(L:Keyed→Keyed→Bool):Prop where
 asym:∀x y,D x→D y→L x y=true→L y x=false
 tr:∀x y z,D x→D y→D z→L y x=false→L z y=false→L z x=false
abbrev Le (L:Keyed→Keyed→Bool)(x y:Keyed):Prop:=L y x=false
structure MS (D:Keyed→Prop)(L:Keyed→Keyed→Bool)(T:List Keyed)(o x y:List Keyed):Prop where
 perm:(o++(x++y)).Perm T
 so:o.Pairwise (Le L)
 ox:∀u∈o,∀v∈x,Le L u v
 oy:∀u∈o,∀v∈y,Le L u v
 sx:x.Pairwise (Le L)
 sy:y.Pairwise (Le L)
section
variable {D:Keyed→Prop}{L:Keyed→Keyed→Bool}{T o x y p:List Keyed}
theorem MS.movX (h:MS D L T o (p++x) y)(hp:∀u∈p,∀v∈y,Le L u v):MS D L T (o++p) x y:=by
 obtain⟨h1,h2,h3,h4,h5,h6⟩:=h
 rw[List.pairwise_append]at h5
 refine⟨by simpa [List.append_assoc] using h1,List.pairwise_append.mpr ⟨h2,h5.1,fun u hu v hv=>h3 u hu v (by simp[hv])⟩,?_,?_,h5.2.1,h6⟩
 ·intro u hu v hv
  rcases List.mem_append.mp hu with hu | hu
  ·exact h3 u hu v (by simp[hv])
  ·exact h5.2.2 u hu v hv
 ·intro u hu v hv
  rcases List.mem_append.mp hu with hu | hu
  ·exact h4 u hu v hv
  ·exact hp u hu v hv
theorem MS.swap (h:MS D L T o x y):MS D L T o y x:=
 ⟨(List.Perm.append_left o List.perm_append_comm).trans h.perm,h.so,h.oy,h.ox,h.sy,h.sx⟩
theorem MS.movY (h:MS D L T o x (p++y))(hp:∀u∈p,∀v∈x,Le L u v):MS D L T (o++p) x y:=(h.swap.movX hp).swap
theorem MS.fin (h:MS D L T o x []):(o++x).Perm T∧(o++x).Pairwise (Le L):=
 ⟨by simpa using h.perm,List.pairwise_append.mpr ⟨h.so,h.sx,h.ox⟩⟩
theorem MS.all (h:MS D L T o x y)(hxy:∀u∈x,∀v∈y,Le L u v):(o++x++y).Perm T∧(o++x++y).Pairwise (Le L):=by
 have:=(MS.movX (x:=[]) (by simpa using h) hxy).swap.fin
 simpa using this
end
noncomputable def mLo:Array Keyed→Array Keyed→StateT SortSt Sem (Array Keyed):=sortPriv% PySem.Builtin.mergeLo
abbrev Zas (st:SortSt)(g:Nat):SortSt:=SortSt.mk' (kindOf st) (arrOf st) (pendingOf st) g (failedOf st)
noncomputable def setG (g:Nat):StateT SortSt Sem Unit:=modify fun s=>Zas s g
noncomputable def mLoB (p q:Array Keyed):StateT SortSt Sem (Array Keyed):=do
 rule "list.sort.merge-lo"
 let tt:=p.size+q.size
 let dn (o:Array Keyed) (i j:Nat):=o++p.extract i p.size++q.extract j q.size
 let lp (o:Array Keyed) (i j:Nat):=o++q.extract j q.size++p.extract i p.size
 let mut o:Array Keyed:=#[←elem' q 0]
 let mut i:=0
 let mut j:=1
 if j == q.size then return dn o i j
 if i+1 == p.size then return lp o i j
 let mut mg:=gallopOf (←get)
 for _ in [0:tt] do
  let mut ca:=0
  let mut cb:=0
  for _ in [0:tt] do
   let some wn ←lt' (←elem' q j) (←elem' p i) | return dn o i j
   if wn then
    o:=o.push (←elem' q j);j:=j+1;cb:=cb+1;ca:=0
    if j == q.size then return dn o i j
    if cb≥mg then break
   else
    o:=o.push (←elem' p i);i:=i+1;ca:=ca+1;cb:=0
    if i+1 == p.size then return lp o i j
    if ca≥mg then break
  rule "list.sort.gallop"
  mg:=mg+1
  for _ in [0:tt] do
   if mg>1 then mg:=mg-1
   setG mg
   let some k ←gal false (←elem' q j) p i (p.size-i) 0 | return dn o i j
   ca:=k
   if k>0 then
    o:=o++p.extract i (i+k);i:=i+k
    if i+1 == p.size then return lp o i j
    if i == p.size then return dn o i j
   o:=o.push (←elem' q j);j:=j+1
   if j == q.size then return dn o i j
   let some k ←gal true (←elem' p i) q j (q.size-j) 0 | return dn o i j
   cb:=k
   if k>0 then
    o:=o++q.extract j (j+k);j:=j+k
    if j == q.size then return dn o i j
   o:=o.push (←elem' p i);i:=i+1
   if i+1 == p.size then return lp o i j
   if ca<7&&cb<7 then break
  mg:=mg+1
  setG mg
 unsupported "internal:list.sort.merge-bound"
theorem Zle (p q:Array Keyed):mLo p q=mLoB p q:=rfl
section
variable {M:Model}{A:Around}{E:Value→Shared→Prop}{s:Shared}{D:Keyed→Prop}{L:Keyed→Keyed→Bool}{kd:SortKind}
noncomputable def PureC (M:Model) (A:Around) (E:Value→Shared→Prop) (s:Shared) (D:Keyed→Prop) (L:Keyed→Keyed→Bool) (kd:SortKind):Prop:=
 ∀(st:SortSt) (x y:Keyed) (Q:Option Bool→SortSt→Prop),kindOf st=kd→D x→D y→Q (some (L x y)) st→wpS M A E s (lt' x y) Q st
theorem ZaJ {ar:Array Keyed}{i:Nat}{x:Keyed}{Q:Keyed→SortSt→Prop}{st:SortSt}(h:ar[i]?=some x)(q:Q x st):wpS M A E s (elem' ar i) Q st:=by
 rw[elem'_eq,h];exact wpS_pure q
theorem Zdb (hC:Cmp D L)(hP:PureC M A E s D L kd){lf:Bool}{ky:Keyed}{ar:Array Keyed}{bs n h:Nat}{st:SortSt}{Q:Option Nat→SortSt→Prop}(hk:kindOf st=kd)
  (hn:bs+n≤ar.size) (hh:h<n) (hy:D ky) (hd:∀u∈ar.toList,D u) (hs:((ar.toList.drop bs).take n).Pairwise (Le L))
  (q:∀k,k≤n→(∀u∈((ar.toList.drop bs).take n).take k,if lf then L u ky=true else Le L u ky)→(∀u∈((ar.toList.drop bs).take n).drop k,if lf then Le L ky u else L ky u=true)→Q (some k) st):
  wpS M A E s (gal lf ky ar bs n h) Q st:=by
 rw[ZlB]
 obtain⟨xs,hxs⟩:∃xs,xs=(ar.toList.drop bs).take n:=⟨_,rfl⟩
 rw[←hxs]at hs q
 have hlen:xs.length=n:=by rw[hxs,List.length_take,List.length_drop,Array.length_toList];omega
 have hat:∀i (hi:i<xs.length),ar[bs+i]?=some xs[i]:=by
  intro i hi
  have:xs[i]?=some xs[i]:=List.getElem?_eq_getElem hi
  rw[←this,hxs,List.getElem?_take,if_pos (by omega),List.getElem?_drop,Array.getElem?_toList]
 have hdx:∀u∈xs,D u:=fun u hu=>hd u (List.mem_of_mem_drop (List.mem_of_mem_take (hxs▸hu)))
 refine ZjY (B:=fun i=>if hi:i<xs.length then (if lf then L xs[i] ky else !L ky xs[i]) else false) hh ?_ ?_ ?_
 ·intro i Q hi hq
  have hi':i<xs.length:=by omega
  rw[dif_pos hi']at hq
  refine wpS_bind (ZaJ (hat i hi') ?_)
  have hD:=hdx _ (List.getElem_mem hi')
  cases lf with
  | true=>exact hP st _ _ _ hk hD hy hq
  | false=>exact wpS_bind (hP st _ _ _ hk hy hD (wpS_pure hq))
 ·intro i j hij hj
  have hj':j<xs.length:=by omega
  have hi':i<xs.length:=by omega
  rw[dif_pos hj',dif_pos hi']
  by_cases e:i=j
  ·subst e;exact id
  ·have hle:Le L xs[i] xs[j]:=List.pairwise_iff_getElem.mp hs i j hi' hj' (by omega)
   have hDi:=hdx _ (List.getElem_mem hi')
   have hDj:=hdx _ (List.getElem_mem hj')
   cases lf with
   | true=>
    rw[if_pos rfl,if_pos rfl]
    intro h1
    cases h2:L xs[i] ky with
    | true=>rfl
    | false=>rw[hC.tr ky _ _ hy hDi hDj h2 hle]at h1;cases h1
   | false=>
    rw[if_neg Bool.false_ne_true,if_neg Bool.false_ne_true]
    intro h1
    rw[Bool.not_eq_true']at h1 ⊢
    exact hC.tr _ _ ky hDi hDj hy hle h1
 ·intro k hk' hp
  refine q k hk' (fun u hu=>?_) (fun u hu=>?_)
  ·obtain⟨i,hi,rfl⟩:=List.getElem_of_mem hu
   rw[List.length_take]at hi
   have:=hp.1 i (by omega)
   dsimp only at this
   rw[dif_pos (by omega)]at this
   rw[List.getElem_take]
   cases lf with
   | true=>exact this
   | false=>simpa using this
  ·obtain⟨i,hi,rfl⟩:=List.getElem_of_mem hu
   rw[List.length_drop]at hi
   have:=hp.2 (k+i) (by omega) (by omega)
   dsimp only at this
   rw[dif_pos (by omega)]at this
   rw[List.getElem_drop]
   cases lf with
   | true=>exact this
   | false=>simpa using this
end
abbrev LoC:=Option (Array Keyed)×Array Keyed×Nat×Nat×Nat×Nat×Nat
noncomputable def dnf (p q o:Array Keyed) (i j:Nat):Array Keyed:=o++p.extract i p.size++q.extract j q.size
noncomputable def lpf (p q o:Array Keyed) (i j:Nat):Array Keyed:=o++q.extract j q.size++p.extract i p.size
noncomputable def loE (p q o:Array Keyed) (i j mg ca cb:Nat):StateT SortSt Sem (ForInStep LoC):=do
 let e ←elem' p i
 if (i+1+1 == p.size)=true then pure (ForInStep.done (some (lpf p q (o.push e) (i+1) j),o.push e,i+1,j,mg,ca,cb))
 else if (decide (ca<7)&&decide (cb<7))=true then pure (ForInStep.done (none,o.push e,i+1,j,mg,ca,cb))
 else pure (ForInStep.yield (none,o.push e,i+1,j,mg,ca,cb))
noncomputable def loD (p q o:Array Keyed) (i j mg ca cb:Nat):StateT SortSt Sem (ForInStep LoC):=do
 let e ←elem' q j
 if (j+1 == q.size)=true then pure (ForInStep.done (some (dnf p q (o.push e) i (j+1)),o.push e,i,j+1,mg,ca,cb))
 else do
  let some k ←gal true (←elem' p i) q (j+1) (q.size-(j+1)) 0 | pure (ForInStep.done (some (dnf p q (o.push e) i (j+1)),o.push e,i,j+1,mg,ca,cb))
  if k>0 then
   if (j+1+k == q.size)=true then pure (ForInStep.done (some (dnf p q (o.push e++q.extract (j+1) (j+1+k)) i (j+1+k)),o.push e++q.extract (j+1) (j+1+k),i,j+1+k,mg,ca,k))
   else loE p q (o.push e++q.extract (j+1) (j+1+k)) i (j+1+k) mg ca k
  else loE p q (o.push e) i (j+1) mg ca k
noncomputable def loF (p q o:Array Keyed) (i j mg ca cb:Nat):StateT SortSt Sem (ForInStep LoC):=do
 setG mg
 let some k ←gal false (←elem' q j) p i (p.size-i) 0 | pure (ForInStep.done (some (dnf p q o i j),o,i,j,mg,ca,cb))
 if k>0 then
  if (i+k+1 == p.size)=true then pure (ForInStep.done (some (lpf p q (o++p.extract i (i+k)) (i+k) j),o++p.extract i (i+k),i+k,j,mg,k,cb))
  else if (i+k == p.size)=true then pure (ForInStep.done (some (dnf p q (o++p.extract i (i+k)) (i+k) j),o++p.extract i (i+k),i+k,j,mg,k,cb))
  else loD p q (o++p.extract i (i+k)) (i+k) j mg k cb
 else loD p q o i j mg k cb
section
variable {M:Model}{A:Around}{E:Value→Shared→Prop}{s:Shared}{D:Keyed→Prop}{L:Keyed→Keyed→Bool}{kd:SortKind}{p q:Array Keyed}{T:List Keyed}{st:SortSt}
structure LoI (D:Keyed→Prop)(L:Keyed→Keyed→Bool)(p q:Array Keyed)(T:List Keyed)(o:Array Keyed)(i j:Nat):Prop where
 ms:MS D L T o.toList (p.toList.drop i) (q.toList.drop j)
 li:i+1<p.size
 lj:j<q.size
noncomputable def Fin1 (L:Keyed→Keyed→Bool) (T:List Keyed) (z:Array Keyed):Prop:=z.toList.Perm T∧z.toList.Pairwise (Le L)
theorem Zer {p:Array Keyed}{i:Nat}{e:Keyed}(h:p[i]?=some e):p.toList.drop i=e::p.toList.drop (i+1):=by
 obtain⟨hi,rfl⟩:=Array.getElem?_eq_some_iff.mp h
 rw[←Array.getElem_toList]
 exact List.drop_eq_getElem_cons (by simpa using hi)
theorem at? {p:Array Keyed}{i:Nat}(h:i<p.size):∃e,p[i]?=some e∧e∈p.toList:=⟨p[i],getElem?_pos p i h,by simp⟩
theorem Ziv (p q o:Array Keyed)(i j:Nat):(dnf p q o i j).toList=o.toList++p.toList.drop i++q.toList.drop j:=by
 unfold dnf;rw[Array.toList_append,Array.toList_append,Array.toList_extract,Array.toList_extract,List.extract,List.extract,List.take_of_length_le (by simp),List.take_of_length_le (by simp)]
theorem Zie (p q o:Array Keyed)(i j:Nat):(lpf p q o i j).toList=o.toList++q.toList.drop j++p.toList.drop i:=by
 unfold lpf;rw[Array.toList_append,Array.toList_append,Array.toList_extract,Array.toList_extract,List.extract,List.extract,List.take_of_length_le (by simp),List.take_of_length_le (by simp)]
theorem Zep (p:Array Keyed)(i k:Nat):(p.extract i (i+k)).toList=(p.toList.drop i).take k:=by
 simp[Array.toList_extract,List.extract]
theorem Zdd (l:List Keyed)(i k:Nat):l.drop i=(l.drop i).take k++l.drop (i+k):=by
 rw[←List.drop_drop,List.take_append_drop]
structure LoH (D:Keyed→Prop)(L:Keyed→Keyed→Bool)(p q:Array Keyed):Prop where
 dp:∀u∈p.toList,D u
 dq:∀u∈q.toList,D u
 sp:p.toList.Pairwise (Le L)
 sq:q.toList.Pairwise (Le L)
 last:∀u∈q.toList,∀v∈p.toList.drop (p.size-1),L u v=true
theorem LoH.fin_lp {o:Array Keyed}{i j:Nat}(hH:LoH D L p q)(hC:Cmp D L)(h:MS D L T o.toList (p.toList.drop i) (q.toList.drop j))(e:i+1=p.size):Fin1 L T (lpf p q o i j):=by
 unfold Fin1;rw[Zie]
 refine h.swap.all fun u hu v hv=>?_
 have hu:=List.mem_of_mem_drop hu
 have e':i=p.size-1:=by omega
 subst e'
 exact hC.asym _ _ (hH.dq u hu) (hH.dp v (List.mem_of_mem_drop hv)) (hH.last u hu v hv)
theorem ZfN {o:Array Keyed}{i j:Nat}(h:MS D L T o.toList (p.toList.drop i) (q.toList.drop j))(e:j=q.size):Fin1 L T (dnf p q o i j):=by
 unfold Fin1;rw[Ziv]
 have e2:q.toList.drop j=[]:=List.drop_eq_nil_of_le (by simp;omega)
 rw[e2]at h ⊢
 simpa using h.fin
noncomputable def LoQ (D:Keyed→Prop) (L:Keyed→Keyed→Bool) (p q:Array Keyed) (T:List Keyed) (w:Nat) (c:LoC):Prop:=
 ∃r o i j mg ca cb,c=(r,o,i,j,mg,ca,cb)∧((∃z,r=some z∧Fin1 L T z)∨(r=none∧LoI D L p q T o i j∧w≤i+j))
noncomputable def LoY (D:Keyed→Prop) (L:Keyed→Keyed→Bool) (p q:Array Keyed) (T:List Keyed) (w:Nat) (c:LoC):Prop:=
 ∃o i j mg ca cb,c=(none,o,i,j,mg,ca,cb)∧LoI D L p q T o i j∧w≤i+j
noncomputable def LoP (D:Keyed→Prop) (L:Keyed→Keyed→Bool) (p q:Array Keyed) (T:List Keyed) (w:Nat) (st:SortSt) (r:ForInStep LoC) (st':SortSt):Prop:=
 (∃g,st'=Zas st g)∧match r with | .done c=>LoQ D L p q T w c | .yield c=>LoY D L p q T w c
theorem ZiO {o:Array Keyed}{i j mg ca cb w g:Nat}(hH:LoH D L p q)(hC:Cmp D L)(hi:i+1<p.size)(hj:j<q.size)(hw:w≤i+1+j)(h:MS D L T o.toList (p.toList.drop i) (q.toList.drop j))
  (hle:∀u∈(p.toList.drop i).take 1,∀v∈q.toList.drop j,Le L u v):wpS M A E s (loE p q o i j mg ca cb) (LoP D L p q T w st) (Zas st g):=by
 obtain⟨e,he,hm⟩:=at? (p:=p) (i:=i) (by omega)
 have hd:=Zer he
 have h2:MS D L T (o.push e).toList (p.toList.drop (i+1)) (q.toList.drop j):=by
  rw[Array.toList_push]
  rw[hd]at h hle
  exact MS.movX (p:=[e]) h (fun u hu v hv=>hle u (by simpa using hu) v hv)
 unfold loE
 refine wpS_bind (ZaJ he ?_)
 by_cases c1:i+1+1=p.size
 ·rw[if_pos (by simpa using c1)]
  exact wpS_pure ⟨⟨g,rfl⟩,_,_,_,_,_,_,_,rfl,.inl ⟨_,rfl,hH.fin_lp hC h2 c1⟩⟩
 ·rw[if_neg (by simpa using c1)]
  have hI:LoI D L p q T (o.push e) (i+1) j:=⟨h2,by omega,hj⟩
  split
  ·exact wpS_pure ⟨⟨g,rfl⟩,_,_,_,_,_,_,_,rfl,.inr ⟨rfl,hI,hw⟩⟩
  ·exact wpS_pure ⟨⟨g,rfl⟩,_,_,_,_,_,_,rfl,hI,hw⟩
theorem ZiP {o:Array Keyed}{i j mg ca cb w g:Nat}(hH:LoH D L p q)(hC:Cmp D L)(hP:PureC M A E s D L kd)(hk:kindOf st=kd)(hi:i+1<p.size)(hj:j<q.size)(hw:w≤i+1+j)(h:MS D L T o.toList (p.toList.drop i) (q.toList.drop j))
  (hle:∀u∈(q.toList.drop j).take 1,∀v∈p.toList.drop i,Le L u v):wpS M A E s (loD p q o i j mg ca cb) (LoP D L p q T w st) (Zas st g):=by
 obtain⟨e,he,hm⟩:=at? (p:=q) (i:=j) hj
 obtain⟨x,hx,hxm⟩:=at? (p:=p) (i:=i) (by omega)
 have hd:=Zer he
 have h2:MS D L T (o.push e).toList (p.toList.drop i) (q.toList.drop (j+1)):=by
  rw[Array.toList_push]
  rw[hd]at h hle
  exact MS.movY (p:=[e]) h (fun u hu v hv=>hle u (by simpa using hu) v hv)
 unfold loD
 refine wpS_bind (ZaJ he ?_)
 by_cases c1:j+1=q.size
 ·rw[if_pos (by simpa using c1)]
  exact wpS_pure ⟨⟨g,rfl⟩,_,_,_,_,_,_,_,rfl,.inl ⟨_,rfl,ZfN h2 c1⟩⟩
 ·rw[if_neg (by simpa using c1)]
  refine wpS_bind (ZaJ hx ?_)
  have et:(q.toList.drop (j+1)).take (q.size-(j+1))=q.toList.drop (j+1):=List.take_of_length_le (by simp)
  refine wpS_bind (Zdb hC hP (by exact hk) (by omega) (by omega) (hH.dp x hxm) hH.dq (by rw[et];exact h2.sy) ?_)
  rw[et]
  intro k hkn ha hb
  replace ha:∀u∈(q.toList.drop (j+1)).take k,L u x=true:=ha
  replace hb:∀u∈(q.toList.drop (j+1)).drop k,Le L x u:=hb
  dsimp only
  have hpd:=Zer hx
  have hsx:=h2.sx
  rw[hpd,List.pairwise_cons]at hsx
  have xle:∀v∈p.toList.drop i,Le L x v:=by
   intro v hv
   rw[hpd]at hv
   rcases List.mem_cons.mp hv with rfl | hv
   ·cases hx:L v v with
    | false=>exact hx
    | true=>exact hC.asym v v (hH.dp v hxm) (hH.dp v hxm) hx
   ·exact hsx.1 v hv
  have h3:MS D L T (o.push e++q.extract (j+1) (j+1+k)).toList (p.toList.drop i) (q.toList.drop (j+1+k)):=by
   rw[Array.toList_append,Zep]
   rw[Zdd q.toList (j+1) k]at h2
   refine h2.movY fun u hu v hv=>?_
   have hDu:=hH.dq u (List.mem_of_mem_drop (List.mem_of_mem_take hu))
   exact hC.tr u x v hDu (hH.dp x hxm) (hH.dp v (List.mem_of_mem_drop hv)) (hC.asym u x hDu (hH.dp x hxm) (ha u hu)) (xle v hv)
  have hle2:∀u∈(p.toList.drop i).take 1,∀v∈q.toList.drop (j+1+k),Le L u v:=by
   intro u hu v hv
   rw[hpd]at hu
   have:u=x:=by simpa using hu
   subst this
   exact hb v (by rwa [List.drop_drop])
  by_cases hk0:k>0
  ·rw[if_pos hk0]
   by_cases c2:j+1+k=q.size
   ·rw[if_pos (by simpa using c2)]
    exact wpS_pure ⟨⟨g,rfl⟩,_,_,_,_,_,_,_,rfl,.inl ⟨_,rfl,ZfN h3 c2⟩⟩
   ·rw[if_neg (by simpa using c2)]
    exact ZiO hH hC hi (by omega) (by omega) h3 hle2
  ·rw[if_neg hk0]
   have:k=0:=by omega
   subst this
   exact ZiO hH hC hi (by omega) (by omega) h2 hle2
theorem Zlj {o:Array Keyed}{i j mg ca cb w g:Nat}(hH:LoH D L p q)(hC:Cmp D L)(hP:PureC M A E s D L kd)(hk:kindOf st=kd)(hw:w≤i+1+j)(hI:LoI D L p q T o i j):
  wpS M A E s (loF p q o i j mg ca cb) (LoP D L p q T w st) (Zas st g):=by
 obtain⟨h,hi,hj⟩:=hI
 obtain⟨x,hx,hxm⟩:=at? (p:=q) (i:=j) hj
 have hqd:=Zer hx
 have hsy:=h.sy
 rw[hqd,List.pairwise_cons]at hsy
 have xle:∀v∈q.toList.drop j,Le L x v:=by
  intro v hv
  rw[hqd]at hv
  rcases List.mem_cons.mp hv with rfl | hv
  ·cases hx:L v v with
   | false=>exact hx
   | true=>exact hC.asym v v (hH.dq v hxm) (hH.dq v hxm) hx
  ·exact hsy.1 v hv
 unfold loF
 refine wpS_bind (wpS_modify ?_)
 refine wpS_bind (ZaJ hx ?_)
 have et:(p.toList.drop i).take (p.size-i)=p.toList.drop i:=List.take_of_length_le (by simp)
 refine wpS_bind (Zdb hC hP (by exact hk) (by omega) (by omega) (hH.dq x hxm) hH.dp (by rw[et];exact h.sx) ?_)
 rw[et]
 intro k hkn ha hb
 replace ha:∀u∈(p.toList.drop i).take k,Le L u x:=ha
 replace hb:∀u∈(p.toList.drop i).drop k,L x u=true:=hb
 dsimp only
 have h3:MS D L T (o++p.extract i (i+k)).toList (p.toList.drop (i+k)) (q.toList.drop j):=by
  rw[Array.toList_append,Zep]
  rw[Zdd p.toList i k]at h
  refine h.movX fun u hu v hv=>?_
  exact hC.tr u x v (hH.dp u (List.mem_of_mem_drop (List.mem_of_mem_take hu))) (hH.dq x hxm) (hH.dq v (List.mem_of_mem_drop hv)) (ha u hu) (xle v hv)
 have hle2:∀u∈(q.toList.drop j).take 1,∀v∈p.toList.drop (i+k),Le L u v:=by
  intro u hu v hv
  rw[hqd]at hu
  have:u=x:=by simpa using hu
  subst this
  have hv':v∈(p.toList.drop i).drop k:=by rwa [List.drop_drop]
  exact hC.asym u v (hH.dq u hxm) (hH.dp v (List.mem_of_mem_drop hv)) (hb v hv')
 have hlast:i+k≠p.size:=by
  intro e
  obtain⟨y,hy,hym⟩:=at? (p:=p) (i:=p.size-1) (by omega)
  have hyd:=Zer hy
  have h5:=hH.last x hxm y (by rw[hyd];simp)
  have hy2:y∈(p.toList.drop i).take k:=by
   rw[List.take_of_length_le (by simp;omega)]
   have:y∈p.toList.drop (p.size-1):=by rw[hyd];simp
   rw[show p.size-1=i+(p.size-1-i) by omega,←List.drop_drop]at this
   exact List.mem_of_mem_drop this
  have h6:=ha y hy2
  rw[show L x y=false from h6]at h5
  cases h5
 by_cases hk0:k>0
 ·rw[if_pos hk0]
  by_cases c2:i+k+1=p.size
  ·rw[if_pos (by simpa using c2)]
   exact wpS_pure ⟨⟨_,rfl⟩,_,_,_,_,_,_,_,rfl,.inl ⟨_,rfl,hH.fin_lp hC h3 c2⟩⟩
  ·rw[if_neg (by simpa using c2),if_neg (by simpa using hlast)]
   exact ZiP hH hC hP hk (by omega) hj (by omega) h3 hle2
 ·rw[if_neg hk0]
  have:k=0:=by omega
  subst this
  exact ZiP hH hC hP hk hi hj hw h hle2
theorem Zld {Q:Array Keyed→SortSt→Prop}(hH:LoH D L p q)(hC:Cmp D L)(hP:PureC M A E s D L kd)(hk:kindOf st=kd)(hp:0<p.size)(hq:0<q.size)
  (h0:∀u∈q.toList.take 1,∀v∈p.toList,Le L u v) (hQ:∀z g,Fin1 L (p.toList++q.toList) z→Q z (Zas st g)):wpS M A E s (mLo p q) Q st:=by
 rw[Zle];unfold mLoB
 obtain⟨e,he,hm⟩:=at? (p:=q) (i:=0) hq
 have hd:q.toList=e::q.toList.drop 1:=by simpa using Zer he
 have h1:MS D L (p.toList++q.toList) (#[e]:Array Keyed).toList (p.toList.drop 0) (q.toList.drop 1):=by
  have:MS D L (p.toList++q.toList) [] p.toList ([e]++q.toList.drop 1):=⟨by rw[hd];simp,List.Pairwise.nil,by simp,by simp,hH.sp,by have:=hH.sq;rw[hd]at this;exact this⟩
  refine this.movY fun u hu v hv=>h0 u ?_ v hv
  rw[hd];simpa using hu
 refine wpS_bind (wpS_lift (wpAny_rule ⟨rfl,?_⟩))
 refine wpS_bind (ZaJ he ?_)
 by_cases c1:1=q.size
 ·rw[if_pos (by simpa using c1)]
  exact wpS_pure (hQ _ _ (ZfN h1 c1))
 rw[if_neg (by simpa using c1)]
 by_cases c2:0+1=p.size
 ·rw[if_pos (by simpa using c2)]
  exact wpS_pure (hQ _ _ (hH.fin_lp hC h1 c2))
 rw[if_neg (by simpa using c2)]
 refine wpS_bind (wpS_get ?_)
 have hI:LoI D L p q (p.toList++q.toList) #[e] 0 1:=⟨h1,by omega,by omega⟩
 generalize p.toList++q.toList=T at hI hQ
 refine wpS_bind (wpS_mono (wpS_forRange (I:=fun x c st'=>∃g,st'=Zas st g∧∃o i j mg,c=(none,o,i,j,mg)∧LoI D L p q T o i j∧x≤i+j)
  (Q:=fun c st'=>∃g,st'=Zas st g∧∃z o i j mg,c=(some z,o,i,j,mg)∧Fin1 L T z) ?step ?fin ⟨gallopOf st,rfl,_,_,_,_,rfl,hI,by omega⟩) ?post)
 case post=>
  rintro c st' ⟨g,rfl,z,o,i,j,mg,rfl,hz⟩
  exact wpS_pure (hQ z g hz)
 case fin=>
  rintro c st' ⟨g,rfl,o,i,j,mg,rfl,hI,hx⟩
  have:=hI.li;have:=hI.lj
  omega
 case step=>
  rintro x c st' _ hx ⟨g,rfl,o,i,j,mg,rfl,hI,hxi⟩
  dsimp only
  refine wpS_bind (wpS_mono (wpS_forRange (I:=fun y c st'=>st'=Zas st g∧∃o i j ca cb,c=(none,o,i,j,ca,cb)∧LoI D L p q T o i j∧y+x≤i+j)
   (Q:=fun c st'=>st'=Zas st g∧∃r o i j ca cb,c=(r,o,i,j,ca,cb)∧((∃z,r=some z∧Fin1 L T z)∨(r=none∧LoI D L p q T o i j∧x+1≤i+j))) ?s1 ?f1 ⟨rfl,_,_,_,_,_,rfl,hI,by omega⟩) ?p1)
  case f1=>
   rintro c st' ⟨rfl,o,i,j,ca,cb,rfl,hI,hx⟩
   have:=hI.li;have:=hI.lj
   omega
  case s1=>
   rintro y c st' _ hy ⟨rfl,o,i,j,ca,cb,rfl,hI,hxi⟩
   obtain⟨h,hi,hj⟩:=hI
   obtain⟨u,hu,hum⟩:=at? (p:=q) (i:=j) hj
   obtain⟨v,hv,hvm⟩:=at? (p:=p) (i:=i) (by omega)
   have hDu:=hH.dq u hum
   have hDv:=hH.dp v hvm
   have hqd:=Zer hu
   have hpd:=Zer hv
   have hsx:=h.sx
   have hsy:=h.sy
   rw[hpd,List.pairwise_cons]at hsx
   rw[hqd,List.pairwise_cons]at hsy
   dsimp only
   refine wpS_bind (ZaJ hu (wpS_bind (ZaJ hv (wpS_bind (hP _ _ _ _ hk hDu hDv ?_)))))
   dsimp only
   cases hL:L u v with
   | true=>
    rw[if_pos rfl]
    refine wpS_bind (ZaJ hu ?_)
    have h2:MS D L T (o.push u).toList (p.toList.drop i) (q.toList.drop (j+1)):=by
     rw[Array.toList_push]
     rw[hqd]at h
     refine MS.movY (p:=[u]) h fun a ha b hb=>?_
     have ha:a=u:=by simpa using ha
     subst ha
     have hav:Le L a v:=hC.asym _ _ hDu hDv hL
     rw[hpd]at hb
     rcases List.mem_cons.mp hb with rfl | hb
     ·exact hav
     ·exact hC.tr a v b hDu hDv (hH.dp b (List.mem_of_mem_drop hb)) hav (hsx.1 b hb)
    by_cases c3:j+1=q.size
    ·rw[if_pos (by simpa using c3)]
     exact wpS_pure ⟨rfl,_,_,_,_,_,_,rfl,.inl ⟨_,rfl,ZfN h2 c3⟩⟩
    ·rw[if_neg (by simpa using c3)]
     have hI:LoI D L p q T (o.push u) i (j+1):=⟨h2,hi,by omega⟩
     split
     ·exact wpS_pure ⟨rfl,_,_,_,_,_,_,rfl,.inr ⟨rfl,hI,by omega⟩⟩
     ·exact wpS_pure ⟨rfl,_,_,_,_,_,rfl,hI,by omega⟩
   | false=>
    rw[if_neg Bool.false_ne_true]
    refine wpS_bind (ZaJ hv ?_)
    have h2:MS D L T (o.push v).toList (p.toList.drop (i+1)) (q.toList.drop j):=by
     rw[Array.toList_push]
     rw[hpd]at h
     refine MS.movX (p:=[v]) h fun a ha b hb=>?_
     have ha:a=v:=by simpa using ha
     subst ha
     rw[hqd]at hb
     rcases List.mem_cons.mp hb with rfl | hb
     ·exact hL
     ·exact hC.tr a u b hDv hDu (hH.dq b (List.mem_of_mem_drop hb)) hL (hsy.1 b hb)
    by_cases c3:i+1+1=p.size
    ·rw[if_pos (by simpa using c3)]
     exact wpS_pure ⟨rfl,_,_,_,_,_,_,rfl,.inl ⟨_,rfl,hH.fin_lp hC h2 c3⟩⟩
    ·rw[if_neg (by simpa using c3)]
     have hI:LoI D L p q T (o.push v) (i+1) j:=⟨h2,by omega,hj⟩
     split
     ·exact wpS_pure ⟨rfl,_,_,_,_,_,_,rfl,.inr ⟨rfl,hI,by omega⟩⟩
     ·exact wpS_pure ⟨rfl,_,_,_,_,_,rfl,hI,by omega⟩
  case p1=>
   rintro c st' ⟨rfl,r,o,i,j,ca,cb,rfl,⟨z,rfl,hz⟩|⟨rfl,hI,hw⟩⟩
   ·exact wpS_pure ⟨g,rfl,z,o,i,j,mg,rfl,hz⟩
   ·dsimp only
    refine wpS_bind (wpS_lift (wpAny_rule ⟨rfl,?_⟩))
    refine wpS_bind (wpS_mono (wpS_forRange (I:=fun y c st'=>(∃g,st'=Zas st g)∧LoY D L p q T (y+(x+1)) c)
     (Q:=fun c st'=>(∃g,st'=Zas st g)∧LoQ D L p q T (x+1) c) ?s2 ?f2 ⟨⟨g,rfl⟩,_,_,_,_,_,_,rfl,hI,by omega⟩) ?p2)
    case f2=>
     rintro c st' ⟨_,o,i,j,mg,ca,cb,rfl,hI,hx⟩
     have:=hI.li;have:=hI.lj
     omega
    case p2=>
     rintro c st' ⟨⟨g,rfl⟩,r,o,i,j,mg,ca,cb,rfl,⟨z,rfl,hz⟩|⟨rfl,hI,hw⟩⟩
     ·exact wpS_pure ⟨g,rfl,z,o,i,j,mg,rfl,hz⟩
     ·exact wpS_bind (wpS_modify (wpS_pure ⟨_,rfl,_,_,_,_,rfl,hI,hw⟩))
    case s2=>
     rintro y c st' _ hy ⟨⟨g,rfl⟩,o,i,j,mg,ca,cb,rfl,hI,hw⟩
     have key:∀mg,wpS M A E s (loF p q o i j mg ca cb) (fun r st'=>match r with | .done c'=>(∃g,st'=Zas st g)∧LoQ D L p q T (x+1) c' | .yield c'=>(∃g,st'=Zas st g)∧LoY D L p q T (y+1+(x+1)) c') (Zas st g):=by
      intro mg
      refine wpS_mono (Zlj (w:=y+1+(x+1)) hH hC hP hk (by omega) hI) ?_
      rintro r st' ⟨hg,hr⟩
      cases r with
      | done c=>
       obtain⟨r,o,i,j,mg,ca,cb,rfl,h | ⟨rfl,hI,hw⟩⟩:=hr
       ·exact⟨hg,r,o,i,j,mg,ca,cb,rfl,.inl h⟩
       ·exact⟨hg,none,o,i,j,mg,ca,cb,rfl,.inr ⟨rfl,hI,by omega⟩⟩
      | yield c=>exact⟨hg,hr⟩
     have key2:wpS M A E s (if mg>1 then loF p q o i j (mg-1) ca cb else loF p q o i j mg ca cb) (fun r st'=>match r with | .done c'=>(∃g,st'=Zas st g)∧LoQ D L p q T (x+1) c' | .yield c'=>(∃g,st'=Zas st g)∧LoY D L p q T (y+1+(x+1)) c') (Zas st g):=by
      split
      ·exact key _
      ·exact key _
     refine wpS_mono (Q:=fun r st'=>match r with | .done c'=>(∃g,st'=Zas st g)∧LoQ D L p q T (x+1) c' | .yield c'=>(∃g,st'=Zas st g)∧LoY D L p q T (y+1+(x+1)) c') ?_ (fun r st' hr=>by cases r<;>exact hr)
     by_cases hmg:mg>1
     ·rw[if_pos (show (none,o,i,j,mg,ca,cb).snd.snd.snd.snd.fst>1 from hmg)]
      refine Eq.mp ?_ (key (mg-1))
      refine congrArg (fun m=>wpS M A E s m _ _) ?_
      unfold loF loD loE lpf dnf
      dsimp only
     ·rw[if_neg (show ¬(none,o,i,j,mg,ca,cb).snd.snd.snd.snd.fst>1 from hmg)]
      exact key mg
end
noncomputable def mHi:Array Keyed→Array Keyed→StateT SortSt Sem (Array Keyed):=sortPriv% PySem.Builtin.mergeHi
noncomputable def mHiB (p q:Array Keyed):StateT SortSt Sem (Array Keyed):=do
 rule "list.sort.merge-hi"
 let tt:=p.size+q.size
 let dn (o:Array Keyed) (i j:Nat):=p.extract 0 i++q.extract 0 j++o.reverse
 let fb (o:Array Keyed) (i j:Nat):=q.extract 0 j++p.extract 0 i++o.reverse
 let mut i:=p.size-1
 let mut j:=q.size
 let mut o:Array Keyed:=#[←elem' p i]
 if i == 0 then return dn o i j
 if j == 1 then return fb o i j
 let mut mg:=gallopOf (←get)
 for _ in [0:tt] do
  let mut ca:=0
  let mut cb:=0
  for _ in [0:tt] do
   let some wn ←lt' (←elem' q (j-1)) (←elem' p (i-1)) | return dn o i j
   if wn then
    i:=i-1;o:=o.push (←elem' p i);ca:=ca+1;cb:=0
    if i == 0 then return dn o i j
    if ca≥mg then break
   else
    j:=j-1;o:=o.push (←elem' q j);cb:=cb+1;ca:=0
    if j == 1 then return fb o i j
    if cb≥mg then break
  rule "list.sort.gallop"
  mg:=mg+1
  for _ in [0:tt] do
   if mg>1 then mg:=mg-1
   setG mg
   let some a ←gal false (←elem' q (j-1)) p 0 i (i-1) | return dn o i j
   let k:=i-a
   ca:=k
   if k>0 then
    o:=o++(p.extract a i).reverse;i:=a
    if i == 0 then return dn o i j
   j:=j-1;o:=o.push (←elem' q j)
   if j == 1 then return fb o i j
   let some a ←gal true (←elem' p (i-1)) q 0 j (j-1) | return dn o i j
   let k:=j-a
   cb:=k
   if k>0 then
    o:=o++(q.extract a j).reverse;j:=a
    if j == 1 then return fb o i j
    if j == 0 then return dn o i j
   i:=i-1;o:=o.push (←elem' p i)
   if i == 0 then return dn o i j
   if ca<7&&cb<7 then break
  mg:=mg+1
  setG mg
 unsupported "internal:list.sort.merge-bound"
theorem Zlg (p q:Array Keyed):mHi p q=mHiB p q:=rfl
abbrev HiC:=Option (Array Keyed)×Nat×Nat×Array Keyed×Nat×Nat×Nat
noncomputable def dnh (p q o:Array Keyed) (i j:Nat):Array Keyed:=p.extract 0 i++q.extract 0 j++o.reverse
noncomputable def fbh (p q o:Array Keyed) (i j:Nat):Array Keyed:=q.extract 0 j++p.extract 0 i++o.reverse
noncomputable def hiE (p q o:Array Keyed) (i j mg ca cb:Nat):StateT SortSt Sem (ForInStep HiC):=do
 let e ←elem' p (i-1)
 if (i-1 == 0)=true then pure (ForInStep.done (some (dnh p q (o.push e) (i-1) j),i-1,j,o.push e,mg,ca,cb))
 else if (decide (ca<7)&&decide (cb<7))=true then pure (ForInStep.done (none,i-1,j,o.push e,mg,ca,cb))
 else pure (ForInStep.yield (none,i-1,j,o.push e,mg,ca,cb))
noncomputable def hiD (p q o:Array Keyed) (i j mg ca cb:Nat):StateT SortSt Sem (ForInStep HiC):=do
 let e ←elem' q (j-1)
 if (j-1 == 1)=true then pure (ForInStep.done (some (fbh p q (o.push e) i (j-1)),i,j-1,o.push e,mg,ca,cb))
 else do
  let some a ←gal true (←elem' p (i-1)) q 0 (j-1) (j-1-1) | pure (ForInStep.done (some (dnh p q (o.push e) i (j-1)),i,j-1,o.push e,mg,ca,cb))
  if j-1-a>0 then
   if (a == 1)=true then pure (ForInStep.done (some (fbh p q (o.push e++(q.extract a (j-1)).reverse) i a),i,a,o.push e++(q.extract a (j-1)).reverse,mg,ca,j-1-a))
   else if (a == 0)=true then pure (ForInStep.done (some (dnh p q (o.push e++(q.extract a (j-1)).reverse) i a),i,a,o.push e++(q.extract a (j-1)).reverse,mg,ca,j-1-a))
   else hiE p q (o.push e++(q.extract a (j-1)).reverse) i a mg ca (j-1-a)
  else hiE p q (o.push e) i (j-1) mg ca (j-1-a)
noncomputable def hiF (p q o:Array Keyed) (i j mg ca cb:Nat):StateT SortSt Sem (ForInStep HiC):=do
 setG mg
 let some a ←gal false (←elem' q (j-1)) p 0 i (i-1) | pure (ForInStep.done (some (dnh p q o i j),i,j,o,mg,ca,cb))
 if i-a>0 then
  if (a == 0)=true then pure (ForInStep.done (some (dnh p q (o++(p.extract a i).reverse) a j),a,j,o++(p.extract a i).reverse,mg,i-a,cb))
  else hiD p q (o++(p.extract a i).reverse) a j mg (i-a) cb
 else hiD p q o i j mg (i-a) cb
section
variable {M:Model}{A:Around}{E:Value→Shared→Prop}{s:Shared}{D:Keyed→Prop}{L:Keyed→Keyed→Bool}{kd:SortKind}{p q:Array Keyed}{T:List Keyed}{st:SortSt}
abbrev Fl (L:Keyed→Keyed→Bool):Keyed→Keyed→Bool:=fun x y=>L y x
theorem ZiI {l:List Keyed}:l.reverse.Pairwise (Le (Fl L))↔l.Pairwise (Le L):=by rw[List.pairwise_reverse]
abbrev MR (D:Keyed→Prop)(L:Keyed→Keyed→Bool)(T:List Keyed)(p q o:Array Keyed)(i j:Nat):Prop:=MS D (Fl L) T o.toList (p.toList.take i).reverse (q.toList.take j).reverse
structure HiI (D:Keyed→Prop)(L:Keyed→Keyed→Bool)(p q:Array Keyed)(T:List Keyed)(o:Array Keyed)(i j:Nat):Prop where
 ms:MR D L T p q o i j
 li:0<i
 lj:1<j
 hi:i≤p.size
 hj:j≤q.size
structure HiH (D:Keyed→Prop)(L:Keyed→Keyed→Bool)(p q:Array Keyed):Prop where
 dp:∀u∈p.toList,D u
 dq:∀u∈q.toList,D u
 sp:p.toList.Pairwise (Le L)
 sq:q.toList.Pairwise (Le L)
 first:∀u∈q.toList.take 1,∀v∈p.toList,L u v=true
theorem Zf0 {p:Array Keyed}{i:Nat}{e:Keyed}(hi:0<i)(h:p[i-1]?=some e):p.toList.take i=p.toList.take (i-1)++[e]:=by
 obtain⟨i,rfl⟩:∃k,i=k+1:=⟨i-1,by omega⟩
 rw[Nat.add_sub_cancel]at h ⊢
 rw[List.take_succ,Array.getElem?_toList,h];rfl
theorem ZhS {p:Array Keyed}{i:Nat}{e:Keyed}(hi:0<i)(h:p[i-1]?=some e):(p.toList.take i).reverse=[e]++(p.toList.take (i-1)).reverse:=by
 rw[Zf0 hi h,List.reverse_append];rfl
theorem Zc1 (l:List Keyed){a i:Nat}(h:a≤i):(l.take i).reverse=((l.take i).drop a).reverse++(l.take a).reverse:=by
 rw[←List.reverse_append]
 congr 1
 have:l.take a=(l.take i).take a:=by rw[List.take_take,Nat.min_eq_left h]
 rw[this,List.take_append_drop]
theorem ZlD (p:Array Keyed)(a i:Nat):(p.extract a i).reverse.toList=((p.toList.take i).drop a).reverse:=by
 rw[Array.toList_reverse,Array.toList_extract,List.extract,List.drop_take]
theorem Ziu (p q o:Array Keyed)(i j:Nat):(dnh p q o i j).toList=p.toList.take i++q.toList.take j++o.toList.reverse:=by
 unfold dnh;rw[Array.toList_append,Array.toList_append,Array.toList_extract,Array.toList_extract,Array.toList_reverse,List.extract,List.extract];simp
theorem Zis (p q o:Array Keyed)(i j:Nat):(fbh p q o i j).toList=q.toList.take j++p.toList.take i++o.toList.reverse:=by
 unfold fbh;rw[Array.toList_append,Array.toList_append,Array.toList_extract,Array.toList_extract,Array.toList_reverse,List.extract,List.extract];simp
theorem Zhw {l m:List Keyed}(h:l.Perm T∧l.Pairwise (Le (Fl L)))(e:m=l.reverse):m.Perm T∧m.Pairwise (Le L):=by
 subst e
 refine⟨(List.reverse_perm l).trans h.1,?_⟩
 rw[List.pairwise_reverse];exact h.2
theorem ZfO {o:Array Keyed}{i j:Nat}(h:MR D L T p q o i j)(e:i=0):Fin1 L T (dnh p q o i j):=by
 unfold Fin1;rw[Ziu]
 subst e
 have h':=h.swap
 exact Zhw (l:=o.toList++(q.toList.take j).reverse) (MS.fin (D:=D) (by simpa using h')) (by simp)
theorem HiH.fin_fb {o:Array Keyed}{i j:Nat}(hH:HiH D L p q)(hC:Cmp D L)(h:MR D L T p q o i j)(e:j=1):Fin1 L T (fbh p q o i j):=by
 unfold Fin1;rw[Zis]
 subst e
 refine Zhw (h.all fun u hu v hv=>?_) (by simp)
 have hu:u∈p.toList:=List.mem_of_mem_take (List.mem_reverse.mp hu)
 have hv:=List.mem_reverse.mp hv
 exact hC.asym v u (hH.dq v (List.mem_of_mem_take hv)) (hH.dp u hu) (hH.first v hv u hu)
noncomputable def HiQ (D:Keyed→Prop) (L:Keyed→Keyed→Bool) (p q:Array Keyed) (T:List Keyed) (w:Nat) (c:HiC):Prop:=
 ∃r o i j mg ca cb,c=(r,i,j,o,mg,ca,cb)∧((∃z,r=some z∧Fin1 L T z)∨(r=none∧HiI D L p q T o i j∧i+j≤w))
noncomputable def HiY (D:Keyed→Prop) (L:Keyed→Keyed→Bool) (p q:Array Keyed) (T:List Keyed) (w:Nat) (c:HiC):Prop:=
 ∃o i j mg ca cb,c=(none,i,j,o,mg,ca,cb)∧HiI D L p q T o i j∧i+j≤w
noncomputable def HiP (D:Keyed→Prop) (L:Keyed→Keyed→Bool) (p q:Array Keyed) (T:List Keyed) (w:Nat) (st:SortSt) (r:ForInStep HiC) (st':SortSt):Prop:=
 (∃g,st'=Zas st g)∧match r with | .done c=>HiQ D L p q T w c | .yield c=>HiY D L p q T w c
theorem ZiT {o:Array Keyed}{i j mg ca cb w g:Nat}(hH:HiH D L p q)(hi:0<i)(hip:i≤p.size)(hj:1<j)(hjq:j≤q.size)(hw:i-1+j≤w)(h:MR D L T p q o i j)
  (hle:∀u∈(p.toList.take i).drop (i-1),∀v∈q.toList.take j,Le L v u):wpS M A E s (hiE p q o i j mg ca cb) (HiP D L p q T w st) (Zas st g):=by
 obtain⟨e,he,hm⟩:=at? (p:=p) (i:=i-1) (by omega)
 have hd:=ZhS hi he
 have h2:MR D L T p q (o.push e) (i-1) j:=by
  unfold MR at h ⊢
  rw[Array.toList_push]
  rw[hd]at h
  refine MS.movX h fun u hu v hv=>?_
  have hu:u=e:=by simpa using hu
  subst hu
  refine hle u ?_ v (List.mem_reverse.mp hv)
  rw[Zf0 hi he,List.drop_append_of_le_length (by simp;omega)]
  simp
 unfold hiE
 refine wpS_bind (ZaJ he ?_)
 by_cases c1:i-1=0
 ·rw[if_pos (by simpa using c1)]
  exact wpS_pure ⟨⟨g,rfl⟩,_,_,_,_,_,_,_,rfl,.inl ⟨_,rfl,ZfO h2 c1⟩⟩
 ·rw[if_neg (by simpa using c1)]
  have hI:HiI D L p q T (o.push e) (i-1) j:=⟨h2,by omega,hj,by omega,hjq⟩
  split
  ·exact wpS_pure ⟨⟨g,rfl⟩,_,_,_,_,_,_,_,rfl,.inr ⟨rfl,hI,hw⟩⟩
  ·exact wpS_pure ⟨⟨g,rfl⟩,_,_,_,_,_,_,rfl,hI,hw⟩
theorem le_refl' (hC:Cmp D L){v:Keyed}(h:D v):Le L v v:=by
 cases hx:L v v with
 | false=>exact hx
 | true=>exact hC.asym v v h h hx
theorem Zdz (hC:Cmp D L)(hd:∀u∈p.toList,D u)(hs:p.toList.Pairwise (Le L)){i:Nat}{x:Keyed}(hi:0<i)(hx:p[i-1]?=some x)(hm:x∈p.toList):∀v∈p.toList.take i,Le L v x:=by
 intro v hv
 have h2:=hs.sublist (List.take_sublist i p.toList)
 rw[Zf0 hi hx]at h2 hv
 rcases List.mem_append.mp hv with hv | hv
 ·exact(List.pairwise_append.mp h2).2.2 v hv x (by simp)
 ·have:v=x:=by simpa using hv
  subst this;exact le_refl' hC (hd v hm)
theorem ZcJ {i:Nat}{x u:Keyed}(hi:0<i)(hip:i≤p.size)(hx:p[i-1]?=some x):u∈(p.toList.take i).drop (i-1)↔u=x:=by
 rw[Zf0 hi hx,List.drop_append_of_le_length (by simp;omega),List.drop_eq_nil_of_le (by simp;omega)]
 simp
theorem ZiU {o:Array Keyed}{i j mg ca cb w g:Nat}(hH:HiH D L p q)(hC:Cmp D L)(hP:PureC M A E s D L kd)(hk:kindOf st=kd)(hi:0<i)(hip:i≤p.size)(hj:1<j)(hjq:j≤q.size)(hw:i-1+j≤w)
  (h:MR D L T p q o i j) (hle:∀v∈(q.toList.take j).drop (j-1),∀u∈p.toList.take i,Le L u v):wpS M A E s (hiD p q o i j mg ca cb) (HiP D L p q T w st) (Zas st g):=by
 obtain⟨e,he,hm⟩:=at? (p:=q) (i:=j-1) (by omega)
 obtain⟨x,hx,hxm⟩:=at? (p:=p) (i:=i-1) (by omega)
 have h2:MR D L T p q (o.push e) i (j-1):=by
  unfold MR at h ⊢
  rw[Array.toList_push]
  rw[ZhS (by omega) he]at h
  refine MS.movY h fun u hu v hv=>?_
  have hu:u=e:=by simpa using hu
  exact hle u ((ZcJ (by omega) hjq he).mpr hu) v (List.mem_reverse.mp hv)
 unfold hiD
 refine wpS_bind (ZaJ he ?_)
 by_cases c1:j-1=1
 ·rw[if_pos (by simpa using c1)]
  exact wpS_pure ⟨⟨g,rfl⟩,_,_,_,_,_,_,_,rfl,.inl ⟨_,rfl,hH.fin_fb hC h2 c1⟩⟩
 ·rw[if_neg (by simpa using c1)]
  refine wpS_bind (ZaJ hx ?_)
  refine wpS_bind (Zdb hC hP (by exact hk) (by omega) (by omega) (hH.dp x hxm) hH.dq (by rw[List.drop_zero];exact hH.sq.sublist (List.take_sublist _ _)) ?_)
  rw[List.drop_zero]
  intro a hkn ha hb
  replace ha:∀u∈(q.toList.take (j-1)).take a,L u x=true:=ha
  replace hb:∀u∈(q.toList.take (j-1)).drop a,Le L x u:=hb
  rw[List.take_take,Nat.min_eq_left hkn]at ha
  dsimp only
  have xge:=Zdz hC hH.dp hH.sp hi hx hxm
  have h3:MR D L T p q (o.push e++(q.extract a (j-1)).reverse) i a:=by
   unfold MR at h2 ⊢
   rw[Array.toList_append,ZlD]
   rw[Zc1 q.toList hkn]at h2
   refine h2.movY fun u hu v hv=>?_
   have hu:=List.mem_reverse.mp hu
   have hv:=List.mem_reverse.mp hv
   exact hC.tr v x u (hH.dp v (List.mem_of_mem_take hv)) (hH.dp x hxm) (hH.dq u (List.mem_of_mem_take (List.mem_of_mem_drop hu))) (xge v hv) (hb u hu)
  have hle2:∀u∈(p.toList.take i).drop (i-1),∀v∈q.toList.take a,Le L v u:=by
   intro u hu v hv
   have:=(ZcJ hi hip hx).mp hu
   subst this
   exact hC.asym v u (hH.dq v (List.mem_of_mem_take hv)) (hH.dp u hxm) (ha v hv)
  have ha0:a≠0:=by
   rintro rfl
   obtain⟨y,hy,hym⟩:=at? (p:=q) (i:=0) (by omega)
   have hyq:q.toList.take 1=[y]:=by have:=Zf0 (p:=q) (i:=1) (by omega) hy;simpa using this
   have h5:=hH.first y (by rw[hyq];simp) x hxm
   have h6:y∈q.toList.take (j-1):=by
    have:q.toList.take 1=(q.toList.take (j-1)).take 1:=by rw[List.take_take,Nat.min_eq_left (by omega)]
    rw[this]at hyq
    exact List.mem_of_mem_take (i:=1) (by rw[hyq];simp)
   rw[show L y x=false from hb y h6]at h5
   cases h5
  by_cases hk0:j-1-a>0
  ·rw[if_pos hk0]
   by_cases c2:a=1
   ·rw[if_pos (by simpa using c2)]
    exact wpS_pure ⟨⟨g,rfl⟩,_,_,_,_,_,_,_,rfl,.inl ⟨_,rfl,hH.fin_fb hC h3 c2⟩⟩
   ·rw[if_neg (by simpa using c2),if_neg (by simpa using ha0)]
    exact ZiT hH hi hip (by omega) (by omega) (by omega) h3 hle2
  ·rw[if_neg hk0]
   have:a=j-1:=by omega
   subst this
   exact ZiT hH hi hip (by omega) (by omega) (by omega) h2 hle2
theorem Zlz {o:Array Keyed}{i j mg ca cb w g:Nat}(hH:HiH D L p q)(hC:Cmp D L)(hP:PureC M A E s D L kd)(hk:kindOf st=kd)(hw:i-1+j≤w)(hI:HiI D L p q T o i j):
  wpS M A E s (hiF p q o i j mg ca cb) (HiP D L p q T w st) (Zas st g):=by
 obtain⟨h,hi,hj,hip,hjq⟩:=hI
 obtain⟨x,hx,hxm⟩:=at? (p:=q) (i:=j-1) (by omega)
 unfold hiF
 refine wpS_bind (wpS_modify ?_)
 refine wpS_bind (ZaJ hx ?_)
 refine wpS_bind (Zdb hC hP (by exact hk) (by omega) (by omega) (hH.dq x hxm) hH.dp (by rw[List.drop_zero];exact hH.sp.sublist (List.take_sublist _ _)) ?_)
 rw[List.drop_zero]
 intro a hkn ha hb
 replace ha:∀u∈(p.toList.take i).take a,Le L u x:=ha
 replace hb:∀u∈(p.toList.take i).drop a,L x u=true:=hb
 rw[List.take_take,Nat.min_eq_left hkn]at ha
 dsimp only
 have xge:=Zdz hC hH.dq hH.sq (by omega) hx hxm
 have h3:MR D L T p q (o++(p.extract a i).reverse) a j:=by
  unfold MR at h ⊢
  rw[Array.toList_append,ZlD]
  rw[Zc1 p.toList hkn]at h
  refine h.movX fun u hu v hv=>?_
  have hu:=List.mem_reverse.mp hu
  have hv:=List.mem_reverse.mp hv
  have hDu:=hH.dp u (List.mem_of_mem_take (List.mem_of_mem_drop hu))
  exact hC.tr v x u (hH.dq v (List.mem_of_mem_take hv)) (hH.dq x hxm) hDu (xge v hv) (hC.asym x u (hH.dq x hxm) hDu (hb u hu))
 have hle2:∀v∈(q.toList.take j).drop (j-1),∀u∈p.toList.take a,Le L u v:=by
  intro v hv u hu
  have:=(ZcJ (by omega) hjq hx).mp hv
  subst this
  exact ha u hu
 by_cases hk0:i-a>0
 ·rw[if_pos hk0]
  by_cases c2:a=0
  ·rw[if_pos (by simpa using c2)]
   exact wpS_pure ⟨⟨_,rfl⟩,_,_,_,_,_,_,_,rfl,.inl ⟨_,rfl,ZfO h3 c2⟩⟩
  ·rw[if_neg (by simpa using c2)]
   exact ZiU hH hC hP hk (by omega) (by omega) hj hjq (by omega) h3 hle2
 ·rw[if_neg hk0]
  have:a=i:=by omega
  subst this
  exact ZiU hH hC hP hk hi hip hj hjq hw h hle2
theorem Zlf {Q:Array Keyed→SortSt→Prop}(hH:HiH D L p q)(hC:Cmp D L)(hP:PureC M A E s D L kd)(hk:kindOf st=kd)(hp:0<p.size)(hq:0<q.size)
  (h0:∀u∈p.toList.drop (p.size-1),∀v∈q.toList,Le L v u) (hQ:∀z g,Fin1 L (p.toList++q.toList) z→Q z (Zas st g)):wpS M A E s (mHi p q) Q st:=by
 rw[Zlg];unfold mHiB
 obtain⟨e,he,hm⟩:=at? (p:=p) (i:=p.size-1) (by omega)
 have hd:p.toList=p.toList.take (p.size-1)++[e]:=by
  have:=Zf0 hp he
  rwa [List.take_of_length_le (by simp)]at this
 have h1:MR D L (p.toList++q.toList) p q #[e] (p.size-1) q.size:=by
  unfold MR
  have e2:(q.toList.take q.size)=q.toList:=List.take_of_length_le (by simp)
  rw[e2]
  have:MS D (Fl L) (p.toList++q.toList) [] ([e]++(p.toList.take (p.size-1)).reverse) q.toList.reverse:=by
   have e3:[e]++(p.toList.take (p.size-1)).reverse=p.toList.reverse:=by
    conv=>rhs;rw[hd]
    simp
   rw[e3]
   exact⟨by simpa using (List.reverse_perm _).append (List.reverse_perm _),List.Pairwise.nil,by simp,by simp,ZiI.mpr hH.sp,ZiI.mpr hH.sq⟩
  refine this.movX fun u hu v hv=>h0 u ?_ v (List.mem_reverse.mp hv)
  have hu:u=e:=by simpa using hu
  subst hu
  rw[hd,List.drop_append_of_le_length (by simp)]
  simp
 refine wpS_bind (wpS_lift (wpAny_rule ⟨rfl,?_⟩))
 refine wpS_bind (ZaJ he ?_)
 by_cases c1:p.size-1=0
 ·rw[if_pos (by simpa using c1)]
  exact wpS_pure (hQ _ _ (ZfO h1 c1))
 rw[if_neg (by simpa using c1)]
 by_cases c2:q.size=1
 ·rw[if_pos (by simpa using c2)]
  exact wpS_pure (hQ _ _ (hH.fin_fb hC h1 c2))
 rw[if_neg (by simpa using c2)]
 refine wpS_bind (wpS_get ?_)
 have hI:HiI D L p q (p.toList++q.toList) #[e] (p.size-1) q.size:=⟨h1,by omega,by omega,by omega,by omega⟩
 generalize p.toList++q.toList=T at hI hQ
 refine wpS_bind (wpS_mono (wpS_forRange (a:=0) (b:=p.size+q.size) (I:=fun x c st'=>∃g,st'=Zas st g∧∃o i j mg,c=(none,i,j,o,mg)∧HiI D L p q T o i j∧x+(i+j)≤p.size+q.size)
  (Q:=fun c st'=>∃g,st'=Zas st g∧∃z o i j mg,c=(some z,i,j,o,mg)∧Fin1 L T z) ?step ?fin ⟨gallopOf st,rfl,#[e],p.size-1,q.size,gallopOf st,rfl,hI,by omega⟩) ?post)
 case post=>
  rintro c st' ⟨g,rfl,z,o,i,j,mg,rfl,hz⟩
  exact wpS_pure (hQ z g hz)
 case fin=>
  rintro c st' ⟨g,rfl,o,i,j,mg,rfl,hI,hx⟩
  have:=hI.li;have:=hI.lj
  omega
 case step=>
  rintro x c st' _ hx ⟨g,rfl,o,i,j,mg,rfl,hI,hxi⟩
  dsimp only
  refine wpS_bind (wpS_mono (wpS_forRange (I:=fun y c st'=>st'=Zas st g∧∃o i j ca cb,c=(none,i,j,o,ca,cb)∧HiI D L p q T o i j∧y+x+(i+j)≤p.size+q.size)
   (Q:=fun c st'=>st'=Zas st g∧∃r o i j ca cb,c=(r,i,j,o,ca,cb)∧((∃z,r=some z∧Fin1 L T z)∨(r=none∧HiI D L p q T o i j∧x+1+(i+j)≤p.size+q.size))) ?s1 ?f1 ⟨rfl,_,_,_,_,_,rfl,hI,by omega⟩) ?p1)
  case f1=>
   rintro c st' ⟨rfl,o,i,j,ca,cb,rfl,hI,hx⟩
   have:=hI.li;have:=hI.lj
   omega
  case s1=>
   rintro y c st' _ hy ⟨rfl,o,i,j,ca,cb,rfl,hI,hxi⟩
   obtain⟨h,hi,hj,hip,hjq⟩:=hI
   obtain⟨u,hu,hum⟩:=at? (p:=q) (i:=j-1) (by omega)
   obtain⟨v,hv,hvm⟩:=at? (p:=p) (i:=i-1) (by omega)
   have hDu:=hH.dq u hum
   have hDv:=hH.dp v hvm
   have uge:=Zdz hC hH.dq hH.sq (by omega) hu hum
   have vge:=Zdz hC hH.dp hH.sp hi hv hvm
   dsimp only
   refine wpS_bind (ZaJ hu (wpS_bind (ZaJ hv (wpS_bind (hP _ _ _ _ hk hDu hDv ?_)))))
   dsimp only
   cases hL:L u v with
   | true=>
    rw[if_pos rfl]
    refine wpS_bind (ZaJ hv ?_)
    have h2:MR D L T p q (o.push v) (i-1) j:=by
     unfold MR at h ⊢
     rw[Array.toList_push]
     rw[ZhS hi hv]at h
     refine MS.movX h fun a ha b hb=>?_
     have ha:a=v:=by simpa using ha
     subst ha
     have hb:=List.mem_reverse.mp hb
     exact hC.tr b u a (hH.dq b (List.mem_of_mem_take hb)) hDu hDv (uge b hb) (hC.asym _ _ hDu hDv hL)
    by_cases c3:i-1=0
    ·rw[if_pos (by simpa using c3)]
     exact wpS_pure ⟨rfl,_,_,_,_,_,_,rfl,.inl ⟨_,rfl,ZfO h2 c3⟩⟩
    ·rw[if_neg (by simpa using c3)]
     have hI:HiI D L p q T (o.push v) (i-1) j:=⟨h2,by omega,by omega,by omega,by omega⟩
     split
     ·exact wpS_pure ⟨rfl,_,_,_,_,_,_,rfl,.inr ⟨rfl,hI,by omega⟩⟩
     ·exact wpS_pure ⟨rfl,_,_,_,_,_,rfl,hI,by omega⟩
   | false=>
    rw[if_neg Bool.false_ne_true]
    refine wpS_bind (ZaJ hu ?_)
    have h2:MR D L T p q (o.push u) i (j-1):=by
     unfold MR at h ⊢
     rw[Array.toList_push]
     rw[ZhS (by omega) hu]at h
     refine MS.movY h fun a ha b hb=>?_
     have ha:a=u:=by simpa using ha
     subst ha
     have hb:=List.mem_reverse.mp hb
     exact hC.tr b v a (hH.dp b (List.mem_of_mem_take hb)) hDv hDu (vge b hb) hL
    by_cases c3:j-1=1
    ·rw[if_pos (by simpa using c3)]
     exact wpS_pure ⟨rfl,_,_,_,_,_,_,rfl,.inl ⟨_,rfl,hH.fin_fb hC h2 c3⟩⟩
    ·rw[if_neg (by simpa using c3)]
     have hI:HiI D L p q T (o.push u) i (j-1):=⟨h2,by omega,by omega,by omega,by omega⟩
     split
     ·exact wpS_pure ⟨rfl,_,_,_,_,_,_,rfl,.inr ⟨rfl,hI,by omega⟩⟩
     ·exact wpS_pure ⟨rfl,_,_,_,_,_,rfl,hI,by omega⟩
  case p1=>
   rintro c st' ⟨rfl,r,o,i,j,ca,cb,rfl,⟨z,rfl,hz⟩|⟨rfl,hI,hw⟩⟩
   ·exact wpS_pure ⟨g,rfl,z,o,i,j,mg,rfl,hz⟩
   ·dsimp only
    refine wpS_bind (wpS_lift (wpAny_rule ⟨rfl,?_⟩))
    refine wpS_bind (wpS_mono (wpS_forRange (I:=fun y c st'=>(∃g,st'=Zas st g)∧HiY D L p q T (p.size+q.size-y-(x+1)) c)
     (Q:=fun c st'=>(∃g,st'=Zas st g)∧HiQ D L p q T (p.size+q.size-(x+1)) c) ?s2 ?f2 ⟨⟨g,rfl⟩,_,_,_,_,_,_,rfl,hI,by omega⟩) ?p2)
    case f2=>
     rintro c st' ⟨_,o,i,j,mg,ca,cb,rfl,hI,hx⟩
     have:=hI.li;have:=hI.lj
     omega
    case p2=>
     rintro c st' ⟨⟨g,rfl⟩,r,o,i,j,mg,ca,cb,rfl,⟨z,rfl,hz⟩|⟨rfl,hI,hw⟩⟩
     ·exact wpS_pure ⟨g,rfl,z,o,i,j,mg,rfl,hz⟩
     ·exact wpS_bind (wpS_modify (wpS_pure ⟨_,rfl,o,i,j,mg+1,rfl,hI,by have:=hI.li;omega⟩))
    case s2=>
     rintro y c st' _ hy ⟨⟨g,rfl⟩,o,i,j,mg,ca,cb,rfl,hI,hw⟩
     have key:∀mg,wpS M A E s (hiF p q o i j mg ca cb) (fun r st'=>match r with | .done c'=>(∃g,st'=Zas st g)∧HiQ D L p q T (p.size+q.size-(x+1)) c' | .yield c'=>(∃g,st'=Zas st g)∧HiY D L p q T (p.size+q.size-(y+1)-(x+1)) c') (Zas st g):=by
      intro mg
      have:=hI.li
      refine wpS_mono (Zlz (w:=p.size+q.size-(y+1)-(x+1)) hH hC hP hk (by omega) hI) ?_
      rintro r st' ⟨hg,hr⟩
      cases r with
      | done c=>
       obtain⟨r,o,i,j,mg,ca,cb,rfl,h | ⟨rfl,hI,hw⟩⟩:=hr
       ·exact⟨hg,r,o,i,j,mg,ca,cb,rfl,.inl h⟩
       ·exact⟨hg,none,o,i,j,mg,ca,cb,rfl,.inr ⟨rfl,hI,by omega⟩⟩
      | yield c=>exact⟨hg,hr⟩
     refine wpS_mono (Q:=fun r st'=>match r with | .done c'=>(∃g,st'=Zas st g)∧HiQ D L p q T (p.size+q.size-(x+1)) c' | .yield c'=>(∃g,st'=Zas st g)∧HiY D L p q T (p.size+q.size-(y+1)-(x+1)) c') ?_ (fun r st' hr=>by cases r<;>exact hr)
     by_cases hmg:mg>1
     ·rw[if_pos (show (none,i,j,o,mg,ca,cb).snd.snd.snd.snd.fst>1 from hmg)]
      refine Eq.mp ?_ (key (mg-1))
      refine congrArg (fun m=>wpS M A E s m _ _) ?_
      unfold hiF hiD hiE fbh dnh
      dsimp only
     ·rw[if_neg (show ¬(none,i,j,o,mg,ca,cb).snd.snd.snd.snd.fst>1 from hmg)]
      exact key mg
end
noncomputable def mAtB (i:Nat):StateT SortSt Sem Bool:=do
 let v ←get
 let (some (sa,na,pw),some (sb,nb,_)):=((pendingOf v)[i]?,(pendingOf v)[i+1]?) | unsupported "internal:list.sort.pending"
 set (setPending v (((pendingOf v).setIfInBounds i (sa,na+nb,pw)).eraseIdxIfInBounds (i+1)))
 let some k ←gal false (←elem' (arrOf v) sb) (arrOf v) sa na 0 | return false
 let (sa,na):=(sa+k,na-k)
 if na == 0 then return true
 let some nb ←gal true (←elem' (arrOf v) (sa+na-1)) (arrOf v) sb nb (nb-1) | return false
 if nb == 0 then return true
 let x:=(arrOf v).extract sa sb
 let y:=(arrOf v).extract sb (sb+nb)
 let mm ←if na≤nb then mLo x y else mHi x y
 modify fun u=>setArr u (mm.toList.zipIdx.foldl (fun a (p,j)=>a.setIfInBounds (sa+j) p) (arrOf u))
 return (failedOf (←get)).isNone
theorem Zli (i:Nat):mergeAt' i=mAtB i:=rfl
theorem Zja {M:Model}{A:Around}{E:Value→Shared→Prop}{s:Shared}{σ:Type}{v:σ}{Q:PUnit→σ→Prop}{st:σ}(h:Q ⟨⟩ v):wpS M A E s (set v:StateT σ Sem PUnit) Q st:=by
 unfold wpS;rw[StateT.run_set];exact wpAny_pure ⟨rfl,h⟩
noncomputable def putL (a:Array Keyed) (b:Nat) (l:List Keyed):Array Keyed:=l.zipIdx.foldl (fun a (p,j)=>a.setIfInBounds (b+j) p) a
theorem ZgU:∀(l:List Keyed) (n b:Nat) (a:Array Keyed) (x y z:List Keyed),a.toList=x++y++z→x.length=b+n→y.length=l.length →
  ((l.zipIdx n).foldl (fun a (p,j)=>a.setIfInBounds (b+j) p) a).toList=x++l++z
 | [],n,b,a,x,y,z,h,hx,hy=>by
  have:y=[]:=List.length_eq_zero_iff.mp hy
  subst this;simpa using h
 | e::l,n,b,a,x,y,z,h,hx,hy=>by
  cases y with
  | nil=>simp at hy
  | cons f y=>
   rw[List.zipIdx_cons,List.foldl_cons]
   have:=ZgU l (n+1) b (a.setIfInBounds (b+n) e) (x++[e]) y z (by
    rw[Array.toList_setIfInBounds,h,←hx,List.append_assoc,List.cons_append,List.set_append_right _ _ (Nat.le_refl _),Nat.sub_self]
    simp) (by simp;omega) (by simpa using hy)
   rw[this];simp
theorem ZgT {l:List Keyed}{b:Nat}{a:Array Keyed}{x y z:List Keyed}(h:a.toList=x++y++z)(hx:x.length=b)(hy:y.length=l.length):(putL a b l).toList=x++l++z:=
 ZgU l 0 b a x y z h (by omega) hy
section
variable {M:Model}{A:Around}{E:Value→Shared→Prop}{s:Shared}{D:Keyed→Prop}{L:Keyed→Keyed→Bool}{kd:SortKind}{st:SortSt}
theorem slice {a:Array Keyed}{x y z:List Keyed}{b n:Nat}(h:a.toList=x++y++z)(hb:b=x.length)(hn:n=y.length):(a.toList.drop b).take n=y:=by
 rw[h,hb,hn,List.append_assoc,List.drop_left,List.take_left]
theorem Zlh {i pw pw2:Nat}{W X Y Z:List Keyed}{Q:Bool→SortSt→Prop}(hC:Cmp D L)(hP:PureC M A E s D L kd)(hk:kindOf st=kd)(hf:failedOf st=none)
  (ha:(arrOf st).toList=W++X++Y++Z) (hd:∀u∈(arrOf st).toList,D u) (hX:X≠[]) (hY:Y≠[]) (sX:X.Pairwise (Le L)) (sY:Y.Pairwise (Le L))
  (h1:(pendingOf st)[i]?=some (W.length,X.length,pw)) (h2:(pendingOf st)[i+1]?=some (W.length+X.length,Y.length,pw2))
  (hQ:∀(V:List Keyed) (a:Array Keyed) g,a.toList=W++V++Z→V.Perm (X++Y)→V.Pairwise (Le L)→Q true (SortSt.mk' kd a (((pendingOf st).setIfInBounds i (W.length,X.length+Y.length,pw)).eraseIdxIfInBounds (i+1)) g none)):
  wpS M A E s (mergeAt' i) Q st:=by
 rw[Zli];unfold mAtB
 refine wpS_bind (wpS_get ?_)
 rw[h1,h2]
 dsimp only
 refine wpS_bind (Zja ?_)
 have hsz:(arrOf st).size=W.length+X.length+Y.length+Z.length:=by rw[←Array.length_toList,ha];simp;omega
 have hXp:0<X.length:=List.length_pos_iff.mpr hX
 have hYp:0<Y.length:=List.length_pos_iff.mpr hY
 have dX:∀u∈X,D u:=fun u hu=>hd u (by rw[ha];simp[hu])
 have dY:∀u∈Y,D u:=fun u hu=>hd u (by rw[ha];simp[hu])
 obtain⟨y0,Y',rfl⟩:∃y l,Y=y::l:=by cases Y with | nil=>exact absurd rfl hY | cons y l=>exact⟨y,l,rfl⟩
 have hy0:(arrOf st)[W.length+X.length]?=some y0:=by
  rw[←Array.getElem?_toList,ha,List.append_assoc,List.getElem?_append_right (by simp)]
  simp
 have dy0:=dY y0 (by simp)
 refine wpS_bind (ZaJ hy0 ?_)
 have sl1:=slice (a:=arrOf st) (x:=W) (y:=X) (z:=y0::Y'++Z) (b:=W.length) (n:=X.length) (by rw[ha];simp) rfl rfl
 have sl2:=slice (a:=arrOf st) (x:=W++X) (y:=y0::Y') (z:=Z) (b:=W.length+X.length) (n:=(y0::Y').length) (by rw[ha]) (by simp) rfl
 refine wpS_bind (Zdb hC hP (by exact hk) (by omega) hXp dy0 hd (by rw[sl1];exact sX) ?_)
 rw[sl1]
 intro k hkn ha1 hb1
 replace ha1:∀u∈X.take k,Le L u y0:=ha1
 replace hb1:∀u∈X.drop k,L y0 u=true:=hb1
 dsimp only
 have y0le:∀v∈y0::Y',Le L y0 v:=by
  intro v hv
  rcases List.mem_cons.mp hv with rfl | hv
  ·exact le_refl' hC dy0
  ·exact(List.pairwise_cons.mp sY).1 v hv
 have X1Y:∀u∈X.take k,∀v∈y0::Y',Le L u v:=fun u hu v hv=>hC.tr u y0 v (dX u (List.mem_of_mem_take hu)) dy0 (dY v hv) (ha1 u hu) (y0le v hv)
 by_cases c1:X.length-k=0
 ·rw[if_pos (by simpa using c1)]
  refine wpS_pure ?_
  have e:X.take k=X:=List.take_of_length_le (by omega)
  rw[e]at X1Y
  have:=hQ (X++(y0::Y')) (arrOf st) (gallopOf st) (by rw[ha];simp) (List.Perm.refl _) (List.pairwise_append.mpr ⟨sX,sY,X1Y⟩)
  rw[←hk,←hf]at this
  exact this
 rw[if_neg (by simpa using c1)]
 obtain⟨xl,hxl⟩:∃xl,X[X.length-1]?=some xl:=⟨X[X.length-1],List.getElem?_eq_getElem (by omega)⟩
 have hxm:xl∈X:=List.mem_of_getElem? hxl
 have hxl2:xl∈X.drop k:=by
  refine List.mem_of_getElem? (i:=X.length-1-k) ?_
  rw[List.getElem?_drop,←hxl];congr 1;omega
 have hxa:(arrOf st)[W.length+k+(X.length-k)-1]?=some xl:=by
  rw[←Array.getElem?_toList,ha,List.append_assoc,List.append_assoc,List.getElem?_append_right (by omega),List.getElem?_append_left (by omega),←hxl]
  congr 1;omega
 refine wpS_bind (ZaJ hxa ?_)
 refine wpS_bind (Zdb hC hP (by exact hk) (by simp at hsz ⊢;omega) (by simp) (dX xl hxm) hd (by rw[sl2];exact sY) ?_)
 rw[sl2]
 intro n hnn ha2 hb2
 replace ha2:∀u∈(y0::Y').take n,L u xl=true:=ha2
 replace hb2:∀u∈(y0::Y').drop n,Le L xl u:=hb2
 dsimp only
 have hn0:n≠0:=by
  rintro rfl
  have h5:=hb1 xl hxl2
  rw[show L y0 xl=false from hb2 y0 (by simp)]at h5
  cases h5
 rw[if_neg (by simpa using hn0)]
 obtain⟨x,hx⟩:∃x,x=(arrOf st).extract (W.length+k) (W.length+X.length):=⟨_,rfl⟩
 obtain⟨y,hy⟩:∃y,y=(arrOf st).extract (W.length+X.length) (W.length+X.length+n):=⟨_,rfl⟩
 have xL:x.toList=X.drop k:=by
  rw[hx,Array.toList_extract,List.extract]
  exact slice (x:=W++X.take k) (z:=y0::Y'++Z) (by rw[ha];simp only[List.append_assoc];rw[←List.append_assoc (X.take k),List.take_append_drop]) (by rw[List.length_append,List.length_take,Nat.min_eq_left hkn]) (by rw[List.length_drop];omega)
 have yL:y.toList=(y0::Y').take n:=by
  rw[hy,Array.toList_extract,List.extract]
  exact slice (x:=W++X) (z:=(y0::Y').drop n++Z) (by rw[ha];simp only[List.append_assoc];rw[←List.append_assoc (List.take n _),List.take_append_drop]) (by rw[List.length_append]) (by rw[List.length_take,Nat.min_eq_left hnn];omega)
 have xS:x.size=X.length-k:=by rw[←Array.length_toList,xL,List.length_drop]
 have yS:y.size=n:=by rw[←Array.length_toList,yL,List.length_take,Nat.min_eq_left hnn]
 have y1:y.toList.take 1=[y0]:=by
  rw[yL,List.take_take,Nat.min_eq_left (by omega)];simp
 have xd:∀v∈x.toList.drop (x.size-1),v=xl:=by
  intro v hv
  rw[xL,xS,List.drop_drop]at hv
  have:X.drop (k+(X.length-k-1))=[xl]:=by
   obtain⟨h5,h6⟩:=List.getElem?_eq_some_iff.mp hxl
   rw[show k+(X.length-k-1)=X.length-1 by omega,List.drop_eq_getElem_cons h5,h6,List.drop_eq_nil_of_le (by omega)]
  rw[this]at hv
  simpa using hv
 have dx:∀u∈x.toList,D u:=fun u hu=>dX u (List.mem_of_mem_drop (xL▸hu))
 have dy:∀u∈y.toList,D u:=fun u hu=>dY u (List.mem_of_mem_take (yL▸hu))
 have sx:x.toList.Pairwise (Le L):=by rw[xL];exact sX.sublist (List.drop_sublist _ _)
 have sy:y.toList.Pairwise (Le L):=by rw[yL];exact sY.sublist (List.take_sublist _ _)
 have y0x:∀v∈x.toList,L y0 v=true:=fun v hv=>hb1 v (xL▸hv)
 have yxl:∀u∈y.toList,L u xl=true:=fun u hu=>ha2 u (yL▸hu)
 have main:∀(z:Array Keyed) g,Fin1 L (x.toList++y.toList) z→wpS M A E s (do
   modify fun u=>setArr u (putL (arrOf u) (W.length+k) z.toList)
   return (failedOf (←get)).isNone) Q (Zas (setPending st (((pendingOf st).setIfInBounds i (W.length,X.length+(y0::Y').length,pw)).eraseIdxIfInBounds (i+1))) g):=by
  rintro z g ⟨hz1,hz2⟩
  refine wpS_bind (wpS_modify (wpS_bind (wpS_get (wpS_pure ?_))))
  show Q (failedOf st).isNone _
  rw[hf]
  have hzl:(X.drop k++(y0::Y').take n).length=z.toList.length:=by rw[hz1.length_eq,xL,yL]
  have hp:(putL (arrOf st) (W.length+k) z.toList).toList=W++(X.take k++z.toList++(y0::Y').drop n)++Z:=by
   rw[ZgT (x:=W++X.take k) (y:=X.drop k++(y0::Y').take n) (z:=(y0::Y').drop n++Z) (by
    rw[ha];simp only[List.append_assoc]
    rw[←List.append_assoc (List.take n _),List.take_append_drop,←List.append_assoc (X.take k),List.take_append_drop]) (by rw[List.length_append,List.length_take,Nat.min_eq_left hkn]) hzl]
   simp only[List.append_assoc]
  have zm:∀v∈z.toList,v∈X.drop k∨v∈(y0::Y').take n:=fun v hv=>by
   have:=hz1.mem_iff.mp hv
   rw[xL,yL]at this
   exact List.mem_append.mp this
  have dxl:=dX xl hxm
  have:=hQ (X.take k++z.toList++(y0::Y').drop n) _ g hp ?_ ?_
  ·rw[←hk,←hf]at this
   exact this
  ·have e1:(X.take k++z.toList++(y0::Y').drop n).Perm (X.take k++(X.drop k++(y0::Y').take n)++(y0::Y').drop n):=by
    refine List.Perm.append_right _ (List.Perm.append_left _ ?_)
    rw[xL,yL]at hz1;exact hz1
   refine e1.trans (List.Perm.of_eq ?_)
   rw[←List.append_assoc,List.take_append_drop,List.append_assoc,List.take_append_drop]
  ·have zY2:∀u∈z.toList,∀v∈(y0::Y').drop n,Le L u v:=by
    intro u hu v hv
    rcases zm u hu with h | h
    ·have hux:Le L u xl:=by
      have e5:X=X.take (X.length-1)++[xl]:=by
       obtain⟨h5,h6⟩:=List.getElem?_eq_some_iff.mp hxl
       conv=>lhs;rw[←List.take_append_drop (X.length-1) X,List.drop_eq_getElem_cons h5,h6,List.drop_eq_nil_of_le (by omega)]
      have hu':u∈X:=List.mem_of_mem_drop h
      rw[e5]at sX hu'
      rcases List.mem_append.mp hu' with hu' | hu'
      ·exact(List.pairwise_append.mp sX).2.2 u hu' xl (by simp)
      ·have:u=xl:=by simpa using hu'
       subst this;exact le_refl' hC dxl
     exact hC.tr u xl v (dX u (List.mem_of_mem_drop h)) dxl (dY v (List.mem_of_mem_drop hv)) hux (hb2 v hv)
    ·have e5:=sY
     rw[←List.take_append_drop n (y0::Y')]at e5
     exact(List.pairwise_append.mp e5).2.2 u h v hv
   rw[List.pairwise_append,List.pairwise_append]
   refine⟨⟨sX.sublist (List.take_sublist _ _),hz2,fun u hu v hv=>?_⟩,sY.sublist (List.drop_sublist _ _),fun u hu v hv=>?_⟩
   ·rcases zm v hv with h | h
    ·have e5:=sX
     rw[←List.take_append_drop k X]at e5
     exact(List.pairwise_append.mp e5).2.2 u hu v h
    ·exact X1Y u hu v (List.mem_of_mem_take h)
   ·rcases List.mem_append.mp hu with hu | hu
    ·exact X1Y u hu v (List.mem_of_mem_drop hv)
    ·exact zY2 u hu v hv
 have xp:0<x.size:=by omega
 have yp:0<y.size:=by omega
 rw[←hx,←hy]
 by_cases c3:X.length-k≤n
 ·rw[if_pos c3]
  refine wpS_bind (Zld (st:=setPending st _) ⟨dx,dy,sx,sy,fun u hu v hv=>by rw[xd v hv];exact yxl u hu⟩ hC hP (by exact hk) xp yp (fun u hu v hv=>?_) fun z g hz=>main z g hz)
  have hu:u=y0:=by rw[y1]at hu;simpa using hu
  subst hu
  exact hC.asym u v dy0 (dx v hv) (y0x v hv)
 ·rw[if_neg c3]
  refine wpS_bind (Zlf (st:=setPending st _) ⟨dx,dy,sx,sy,fun u hu v hv=>by rw[y1]at hu;rw[show u=y0 by simpa using hu];exact y0x v hv⟩ hC hP (by exact hk) xp yp (fun u hu v hv=>?_) fun z g hz=>main z g hz)
  rw[xd u hu]
  exact hC.asym v xl (dy v hv) (dX xl hxm) (yxl v hv)
end
abbrev CmpT (L:Keyed→Keyed→Bool):Prop:=Cmp (fun _=>True) L
theorem CmpT.to {L:Keyed→Keyed→Bool}{D:Keyed→Prop}(h:CmpT L):Cmp D L:=⟨fun x y _ _=>h.asym x y trivial trivial,fun x y z _ _ _=>h.tr x y z trivial trivial trivial⟩
theorem CmpT.rf {L:Keyed→Keyed→Bool}(h:CmpT L)(x:Keyed):Le L x x:=le_refl' h trivial
theorem CmpT.le {L:Keyed→Keyed→Bool}(h:CmpT L){x y:Keyed}(e:L x y=true):Le L x y:=h.asym x y trivial trivial e
theorem CmpT.t {L:Keyed→Keyed→Bool}(h:CmpT L){x y z:Keyed}(e:Le L x y)(f:Le L y z):Le L x z:=h.tr x y z trivial trivial trivial e f
theorem CmpT.lt_le {L:Keyed→Keyed→Bool}(h:CmpT L){x y z:Keyed}(e:L x y=true)(f:Le L y z):L x z=true:=by
 cases hx:L x z with
 | true=>rfl
 | false=>rw[h.tr y z x trivial trivial trivial f hx]at e;cases e
noncomputable def at0 (a:Array Keyed) (i:Nat):Keyed:=(a[i]?).getD (.none,.none)
theorem ZcO {a b:Array Keyed}{i j:Nat}(h:a[i]?=b[j]?):at0 a i=at0 b j:=by unfold at0;rw[h]
noncomputable def SegU (L:Keyed→Keyed→Bool) (a:Array Keyed) (l h:Nat):Prop:=∀i j,l≤i→i≤j→j<h→Le L (at0 a i) (at0 a j)
noncomputable def SegD (L:Keyed→Keyed→Bool) (a:Array Keyed) (l h:Nat):Prop:=∀i j,l≤i→i≤j→j<h→Le L (at0 a j) (at0 a i)
structure Kept (lo:Nat)(a b:Array Keyed):Prop where
 perm:b.Perm a
 pre:∀k,k<lo→b[k]?=a[k]?
theorem Kept.rf (lo:Nat)(a:Array Keyed):Kept lo a a:=⟨Array.Perm.refl _,fun _ _=>rfl⟩
theorem Kept.tr {lo:Nat}{a b c:Array Keyed}(h:Kept lo a b)(k:Kept lo b c):Kept lo a c:=⟨k.perm.trans h.perm,fun i hi=>(k.pre i hi).trans (h.pre i hi)⟩
theorem Kept.sz {lo:Nat}{a b:Array Keyed}(h:Kept lo a b):b.size=a.size:=h.perm.size_eq
theorem Kept.d {lo:Nat}{a b:Array Keyed}{D:Keyed→Prop}(h:Kept lo a b)(hd:∀u∈a.toList,D u):∀u∈b.toList,D u:=fun u hu=>hd u ((Array.perm_iff_toList_perm.mp h.perm).mem_iff.mp hu)
theorem ZhM {xs:Array Keyed}{src d:Nat}(hs:src<xs.size)(hd:d≤src)(k:Nat):
  at0 (bubble xs src d) k=if k=src-d then at0 xs src else if src-d<k∧k≤src then at0 xs (k-1) else at0 xs k:=by
 have e:=getElem?_bubble hs d hd k
 repeat' split
 all_goals (refine ZcO (e.trans ?_);first | rw[if_pos (by assumption)] | (rw[if_neg (by assumption)];first | rw[if_pos (by assumption)] | rw[if_neg (by assumption)]))
theorem Zfh {xs:Array Keyed}{i j:Nat}(hj:j≤xs.size)(k:Nat):
  at0 (mirror xs i j ((j-i)/2)) k=if i≤k∧k<j then at0 xs (i+j-1-k) else at0 xs k:=by
 have e:=getElem?_mirror_all (i:=i) hj k
 split
 ·exact ZcO (e.trans (if_pos (by assumption)))
 ·exact ZcO (e.trans (if_neg (by assumption)))
theorem Kept.bub {lo src d:Nat}{a:Array Keyed}(hs:src<a.size)(hd:lo+d≤src):Kept lo a (bubble a src d):=
 ⟨bubble_perm _ _ _,fun k hk=>by rw[getElem?_bubble hs d (by omega),if_neg (by omega),if_neg (by omega)]⟩
theorem Kept.mir {lo i j:Nat}{a:Array Keyed}(hj:j≤a.size)(hl:lo≤i):Kept lo a (mirror a i j ((j-i)/2)):=
 ⟨mirror_perm _ _ _ _,fun k hk=>by rw[getElem?_mirror_all hj,if_neg (by omega)]⟩
section
variable {M:Model}{A:Around}{E:Value→Shared→Prop}{s:Shared}{D:Keyed→Prop}{L:Keyed→Keyed→Bool}{kd:SortKind}{st:SortSt}
theorem Zef {a:Array Keyed}{i j:Nat}{Q:Option Bool→SortSt→Prop}(hP:PureC M A E s D L kd)(hk:kindOf st=kd)(hd:∀u∈a.toList,D u)(hi:i<a.size)(hj:j<a.size)
  (q:Q (some (L (at0 a i) (at0 a j))) (setArr st a)):wpS M A E s (ltAt' i j) Q (setArr st a):=by
 obtain⟨x,hx,hxm⟩:=at? hi
 obtain⟨y,hy,hym⟩:=at? hj
 have ex:at0 a i=x:=by unfold at0;rw[hx];rfl
 have ey:at0 a j=y:=by unfold at0;rw[hy];rfl
 rw[ex,ey]at q
 rw[ltAt'_eq]
 refine wpS_bind (wpS_get ?_)
 exact wpS_bind (ZaJ hx (wpS_bind (ZaJ hy (hP _ _ _ _ hk (hd x hxm) (hd y hym) q))))
theorem Zka {a:Array Keyed}{lo n ok:Nat}{Q:Bool→SortSt→Prop}(hC:CmpT L)(hP:PureC M A E s D L kd)(hk:kindOf st=kd)(hd:∀u∈a.toList,D u)(hn:lo+n≤a.size)(hok:ok≤n)
  (hs:SegU L a lo (lo+ok)) (h:∀b,Kept lo a b→SegU L b lo (lo+n)→Q true (setArr st b)):wpS M A E s (binarySort' lo n ok) Q (setArr st a):=by
 rw[binarySort'_eq]
 refine wpS_bind (wpS_mono (wpS_forRange (I:=fun k c st'=>c=(none,())∧∃b,st'=setArr st b∧Kept lo a b∧SegU L b lo (lo+min k n))
  (Q:=fun c st'=>c=(none,())∧∃b,st'=setArr st b∧Kept lo a b∧SegU L b lo (lo+n)) ?step ?fin ?init) ?post)
 case post=>
  rintro c st' ⟨rfl,b,rfl,hb,hs'⟩
  exact wpS_pure (h b hb hs')
 case init=>
  refine⟨rfl,a,rfl,Kept.rf _ _,fun i j hl hij hj=>?_⟩
  by_cases h1:ok=0
  ·have:i=j:=by omega
   subst this;exact hC.rf _
  ·exact hs i j hl hij (by omega)
 case fin=>
  rintro c st' ⟨hc,b,hst,hb,hs'⟩
  refine⟨hc,b,hst,hb,?_⟩
  rwa [show min (max (max ok 1) n) n=n by omega]at hs'
 case step=>
  rintro k c st' hak hkn ⟨rfl,b,rfl,hb,hs'⟩
  rw[show min k n=k by omega]at hs'
  have hsz:=hb.sz
  have hdb:=hb.d hd
  refine wpS_bind (wpS_mono (wpS_forRange (I:=fun x c st''=>st''=setArr st b∧∃l r,c=(none,l,r)∧l≤r∧r≤k∧r-l≤k-x ∧
    (∀i,lo≤i→i<lo+l→Le L (at0 b i) (at0 b (lo+k)))∧(∀i,lo+r≤i→i<lo+k→L (at0 b (lo+k)) (at0 b i)=true))
   (Q:=fun c st''=>st''=setArr st b∧∃l r,c=(none,l,r)∧l≤k ∧
    (∀i,lo≤i→i<lo+l→Le L (at0 b i) (at0 b (lo+k)))∧(∀i,lo+l≤i→i<lo+k→L (at0 b (lo+k)) (at0 b i)=true)) ?istep ?ifin ?iinit) ?ipost)
  case iinit=>exact⟨rfl,0,k,rfl,by omega,by omega,by omega,fun i h1 hi=>by omega,fun i h1 h2=>by omega⟩
  case ifin=>
   rintro c st'' ⟨rfl,l,r,rfl,hlr,hrk,hm,hlo,hhi⟩
   have:l=r:=by omega
   subst this
   exact⟨rfl,l,l,rfl,hrk,hlo,hhi⟩
  case istep=>
   rintro x c st'' _ hxk ⟨rfl,l,r,rfl,hlr,hrk,hm,hlo,hhi⟩
   dsimp only
   by_cases hge:l≥r
   ·rw[if_pos hge]
    have:l=r:=by omega
    subst this
    exact wpS_pure ⟨rfl,l,l,rfl,hrk,hlo,hhi⟩
   ·rw[if_neg hge]
    refine wpS_bind (Zef hP hk hdb (by omega) (by omega) ?_)
    cases hless:L (at0 b (lo+k)) (at0 b (lo+(l+r)/2)) with
    | true=>exact wpS_pure ⟨rfl,l,(l+r)/2,rfl,by omega,by omega,by omega,hlo,fun i h1 h2=>hC.lt_le hless (hs' _ _ (by omega) h1 h2)⟩
    | false=>exact wpS_pure ⟨rfl,(l+r)/2+1,r,rfl,by omega,by omega,by omega,fun i h0 h1=>hC.t (hs' i (lo+(l+r)/2) h0 (by omega) (by omega)) hless,hhi⟩
  case ipost=>
   rintro c st'' ⟨rfl,l,r,rfl,hlk,hlo,hhi⟩
   show wpS _ _ _ _ (do moveDown' (lo+k) (lo+l);pure (ForInStep.yield (none,()))) _ _
   rw[moveDown'_eq]
   have hks:lo+k<b.size:=by omega
   refine wpS_bind (wpS_modify (wpS_pure ⟨rfl,bubble b (lo+k) (lo+k-(lo+l)),rfl,hb.tr (Kept.bub hks (by omega)),?_⟩))
   rw[show min (k+1) n=k+1 by omega]
   intro i j hl hij hj
   rw[ZhM hks (by omega),ZhM hks (by omega),show lo+k-(lo+k-(lo+l))=lo+l by omega]
   repeat' split
   all_goals first
    | (exfalso;omega)
    | exact hC.rf _
    | exact hlo _ (by omega) (by omega)
    | exact hC.le (hhi _ (by omega) (by omega))
    | exact hs' _ _ (by omega) (by omega) (by omega)
end
noncomputable def ascO (lo a nr:Nat):StateT SortSt Sem AscSt:=
 forIn [a:nr] ((none,a):AscSt) fun _ c=>do
  let x ←ltAt' (lo+c.snd) (lo+c.snd-1)
  match x with
  | some sm=>if sm=true then pure (ForInStep.done (none,c.snd)) else pure (ForInStep.yield (none,c.snd+1))
  | _=>pure (ForInStep.done (some none,c.snd))
noncomputable def tailO (lo n nr:Nat):StateT SortSt Sem (Option Nat):=do
 reverseSlice' lo (lo+n)
 let c ←ascO lo n nr
 match c.fst with
 | some r=>pure r
 | none=>pure (some c.snd)
noncomputable def descO (lo n nr:Nat):StateT SortSt Sem DescSt:=
 forIn [n:nr] ((none,n,0):DescSt) fun _ c=>do
  let x ←ltAt' (lo+c.snd.fst) (lo+c.snd.fst-1)
  match x with
  | some sm=>
   if sm=true then
    if c.snd.snd>0 then do
     reverseSlice' (lo+c.snd.fst-(c.snd.snd+1)) (lo+c.snd.fst)
     pure (ForInStep.yield (none,c.snd.fst+1,0))
    else pure (ForInStep.yield (none,c.snd.fst+1,0))
   else do
    let y ←ltAt' (lo+c.snd.fst-1) (lo+c.snd.fst)
    match y with
    | some lg=>
     if lg=true then pure (ForInStep.done (none,c.snd.fst,c.snd.snd))
     else pure (ForInStep.yield (none,c.snd.fst+1,c.snd.snd+1))
    | _=>pure (ForInStep.done (some none,c.snd.fst,c.snd.snd))
  | _=>pure (ForInStep.done (some none,c.snd.fst,c.snd.snd))
section
variable {M:Model}{A:Around}{E:Value→Shared→Prop}{s:Shared}{D:Keyed→Prop}{L:Keyed→Keyed→Bool}{kd:SortKind}{st:SortSt}
noncomputable def Eqv (L:Keyed→Keyed→Bool) (x y:Keyed):Prop:=Le L x y∧Le L y x
theorem Zcp {a:Array Keyed}{i j:Nat}{Q:Unit→SortSt→Prop}(q:Q () (setArr st (mirror a i j ((j-i)/2)))):wpS M A E s (reverseSlice' i j) Q (setArr st a):=by
 rw[reverseSlice'_eq];exact wpS_modify q
theorem ZhN {a:Array Keyed}{lo n0 nr:Nat}{Q:AscSt→SortSt→Prop}(hC:CmpT L)(hP:PureC M A E s D L kd)(hk:kindOf st=kd)(hd:∀u∈a.toList,D u)(hn:lo+nr≤a.size)(h1:1≤n0)(hnn:n0≤nr)
  (hs:SegU L a lo (lo+n0)) (h:∀n,n0≤n→n≤nr→SegU L a lo (lo+n)→(n=nr∨L (at0 a (lo+n)) (at0 a (lo+n-1))=true)→Q (none,n) (setArr st a)):wpS M A E s (ascO lo n0 nr) Q (setArr st a):=by
 unfold ascO
 refine wpS_forRange (I:=fun x c st'=>st'=setArr st a∧c=(none,x)∧SegU L a lo (lo+x)) ?step ?fin ⟨rfl,rfl,hs⟩
 case fin=>
  rintro c st' ⟨rfl,rfl,hs'⟩
  rw[show max n0 nr=nr by omega]at hs' ⊢
  exact h nr hnn (Nat.le_refl _) hs' (.inl rfl)
 case step=>
  rintro x c st' hax hxn ⟨rfl,rfl,hs'⟩
  dsimp only
  refine wpS_bind (Zef hP hk hd (by omega) (by omega) ?_)
  cases hl:L (at0 a (lo+x)) (at0 a (lo+x-1)) with
  | true=>exact wpS_pure (h x hax (by omega) hs' (.inr hl))
  | false=>
   refine wpS_pure ⟨rfl,rfl,fun i j hli hij hj=>?_⟩
   by_cases hjx:j<lo+x
   ·exact hs' i j hli hij hjx
   ·have hj':j=lo+x:=by omega
    subst hj'
    by_cases hi':i=lo+x
    ·subst hi';exact hC.rf _
    ·exact hC.t (hs' i (lo+x-1) hli (by omega) (by omega)) hl
theorem Zcd {a:Array Keyed}{lo n nr:Nat}{Q:Option Nat→SortSt→Prop}(hC:CmpT L)(hP:PureC M A E s D L kd)(hk:kindOf st=kd)(hd:∀u∈a.toList,D u)(hn:lo+nr≤a.size)(h1:1≤n)(hnn:n≤nr)
  (hs:SegD L a lo (lo+n)) (h:∀b m,Kept lo a b→1≤m→m≤nr→SegU L b lo (lo+m)→Q (some m) (setArr st b)):wpS M A E s (tailO lo n nr) Q (setArr st a):=by
 unfold tailO
 refine wpS_bind (Zcp ?_)
 have hK:Kept lo a (mirror a lo (lo+n) ((lo+n-lo)/2)):=Kept.mir (by omega) (Nat.le_refl _)
 refine wpS_bind (ZhN hC hP hk (hK.d hd) (by rw[hK.sz];exact hn) h1 hnn ?_ fun m hm1 hm2 hsm _=>wpS_pure (h _ m hK (by omega) hm2 hsm))
 intro i j hli hij hj
 rw[Zfh (by omega),Zfh (by omega),if_pos (by omega),if_pos (by omega)]
 exact hs _ _ (by omega) (by omega) (by omega)
theorem Zdv {a:Array Keyed}{i j:Nat}(hC:CmpT L)(hj:j≤a.size)(he:∀k,i≤k→k<j→Eqv L (at0 a k) (at0 a (j-1)))(k:Nat):Eqv L (at0 (mirror a i j ((j-i)/2)) k) (at0 a k):=by
 rw[Zfh hj]
 split
 ·have e1:=he (i+j-1-k) (by omega) (by omega)
  have e2:=he k (by omega) (by omega)
  exact⟨hC.t e1.1 e2.2,hC.t e2.1 e1.2⟩
 ·exact⟨hC.rf _,hC.rf _⟩
theorem SegD.eqv {a b:Array Keyed}{l h:Nat}(hC:CmpT L)(hs:SegD L a l h)(he:∀k,Eqv L (at0 b k) (at0 a k)):SegD L b l h:=
 fun i j h1 h2 h3=>hC.t (he j).1 (hC.t (hs i j h1 h2 h3) (he i).2)
theorem SegD.more {a:Array Keyed}{l x:Nat}(hC:CmpT L)(hs:SegD L a l x)(hle:l<x→Le L (at0 a x) (at0 a (x-1))):SegD L a l (x+1):=by
 intro i j hli hij hj
 by_cases hjx:j<x
 ·exact hs i j hli hij hjx
 ·have hj':j=x:=by omega
  subst hj'
  by_cases hi':i=j
  ·subst hi';exact hC.rf _
  ·exact hC.t (hle (by omega)) (hs i (j-1) hli (by omega) (by omega))
theorem ZfS {a:Array Keyed}{lo n nr:Nat}{Q:DescSt→SortSt→Prop}(hC:CmpT L)(hP:PureC M A E s D L kd)(hk:kindOf st=kd)(hd:∀u∈a.toList,D u)(hn:lo+nr≤a.size)(h1:1≤n)(hnn:n≤nr)
  (hs:SegD L a lo (lo+n))
  (h:∀b m nq,Kept lo a b→n≤m→m≤nr→SegD L b lo (lo+m)→nq+1≤m→(∀i,lo+m-(nq+1)≤i→i<lo+m→Eqv L (at0 b i) (at0 b (lo+m-1)))→Q (none,m,nq) (setArr st b)):
  wpS M A E s (descO lo n nr) Q (setArr st a):=by
 unfold descO
 refine wpS_forRange (I:=fun x c st'=>∃b nq,st'=setArr st b∧c=(none,x,nq)∧Kept lo a b∧SegD L b lo (lo+x)∧nq+1≤x ∧
   (∀i,lo+x-(nq+1)≤i→i<lo+x→Eqv L (at0 b i) (at0 b (lo+x-1)))) ?step ?fin ⟨a,0,rfl,rfl,Kept.rf _ _,hs,by omega,fun i h1 h2=>by rw[show i=lo+n-1 by omega];exact⟨hC.rf _,hC.rf _⟩⟩
 case fin=>
  rintro c st' ⟨b,nq,rfl,rfl,hK,hs',hq,he⟩
  rw[show max n nr=nr by omega]at hs' hq he ⊢
  exact h b nr nq hK hnn (Nat.le_refl _) hs' hq he
 case step=>
  rintro x c st' hax hxn ⟨b,nq,rfl,rfl,hK,hs',hq,he⟩
  have hbs:=hK.sz
  have hdb:=hK.d hd
  dsimp only
  refine wpS_bind (Zef hP hk hdb (by omega) (by omega) ?_)
  cases hl:L (at0 b (lo+x)) (at0 b (lo+x-1)) with
  | true=>
   have hmore:SegD L b lo (lo+x+1):=hs'.more hC fun _=>hC.le hl
   dsimp only
   by_cases hq0:nq>0
   ·rw[if_pos rfl,if_pos hq0]
    refine wpS_bind (Zcp (wpS_pure ⟨_,0,rfl,rfl,hK.tr (Kept.mir (by omega) (by omega)),hmore.eqv hC (Zdv hC (by omega) he),by omega,fun i h1 h2=>?_⟩))
    rw[show i=lo+(x+1)-1 by omega];exact⟨hC.rf _,hC.rf _⟩
   ·rw[if_pos rfl,if_neg hq0]
    refine wpS_pure ⟨b,0,rfl,rfl,hK,hmore,by omega,fun i h1 h2=>?_⟩
    rw[show i=lo+(x+1)-1 by omega];exact⟨hC.rf _,hC.rf _⟩
  | false=>
   dsimp only
   rw[if_neg Bool.false_ne_true]
   refine wpS_bind (Zef hP hk hdb (by omega) (by omega) ?_)
   cases hg:L (at0 b (lo+x-1)) (at0 b (lo+x)) with
   | true=>exact wpS_pure (h b x nq hK hax (by omega) hs' hq he)
   | false=>
    refine wpS_pure ⟨b,nq+1,rfl,rfl,hK,hs'.more hC fun _=>hg,by omega,fun i h1 h2=>?_⟩
    rw[show lo+(x+1)-1=lo+x by omega]
    by_cases hix:i=lo+x
    ·subst hix;exact⟨hC.rf _,hC.rf _⟩
    ·have e:=he i (by omega) (by omega)
     exact⟨hC.t e.1 hl,hC.t hg e.2⟩
theorem Zj7 {a:Array Keyed}{lo nr:Nat}{Q:Option Nat→SortSt→Prop}(hC:CmpT L)(hP:PureC M A E s D L kd)(hk:kindOf st=kd)(hd:∀u∈a.toList,D u)(hn:lo+nr≤a.size)(h1:1≤nr)
  (h:∀b m,Kept lo a b→1≤m→m≤nr→SegU L b lo (lo+m)→Q (some m) (setArr st b)):wpS M A E s (countRun' lo nr) Q (setArr st a):=by
 rw[countRun'_eq]
 refine wpS_bind (wpS_mono (ZhN (Q:=fun c st'=>∃n,c=(none,n)∧st'=setArr st a∧1≤n∧n≤nr∧SegU L a lo (lo+n)∧(n=nr∨L (at0 a (lo+n)) (at0 a (lo+n-1))=true)) hC hP hk hd hn (Nat.le_refl 1) h1 (fun i j hl hij hj=>by have:i=j:=(by omega);subst this;exact hC.rf _) fun n a1 a2 a3 a4=>⟨n,rfl,rfl,a1,a2,a3,a4⟩) ?_)
 rintro c st' ⟨n,rfl,rfl,hn1,hn2,hsn,hor⟩
 dsimp only
 by_cases hnn:n=nr
 ·rw[if_pos (by simpa using hnn)]
  exact wpS_pure (h a n (Kept.rf _ _) hn1 hn2 hsn)
 ·rw[if_neg (by simpa using hnn)]
  have hlt:=hor.resolve_left hnn
  by_cases hgt:n>1
  ·rw[if_pos hgt]
   refine wpS_bind (Zef hP hk hd (by omega) (by omega) ?_)
   cases hrose:L (at0 a lo) (at0 a (lo+n-1)) with
   | true=>
    dsimp only
    rw[if_pos rfl]
    exact wpS_pure (h a n (Kept.rf _ _) hn1 hn2 hsn)
   | false=>
    dsimp only
    rw[if_neg Bool.false_ne_true]
    have hall:∀k,lo≤k→k<lo+n→Eqv L (at0 a k) (at0 a (lo+n-1)):=by
     intro k hk1 hk2
     have a1:=hsn lo k (by omega) hk1 hk2
     have a2:=hsn k (lo+n-1) hk1 (by omega) (by omega)
     exact⟨a2,hC.t hrose a1⟩
    have hsd:SegD L a lo (lo+(n+1)):=by
     refine SegD.more hC (fun i j h1 h2 h3=>?_) fun _=>hC.le hlt
     replace h3:j<lo+n:=h3
     exact hC.t (hall j (by omega) h3).1 (hall i h1 (by omega)).2
    have hK:Kept lo a (mirror a lo (lo+n) ((lo+n-lo)/2)):=Kept.mir (by omega) (Nat.le_refl _)
    refine wpS_bind (Zcp ?_)
    obtain⟨b,hb,hKb,hsb⟩:∃b,b=mirror a lo (lo+n) ((lo+n-lo)/2)∧Kept lo a b∧SegD L b lo (lo+(n+1)):=⟨_,rfl,hK,hsd.eqv hC (Zdv hC (by omega) hall)⟩
    rw[←hb]
    have hbs:=Kept.sz hKb
    refine wpS_bind (wpS_lift (wpAny_rule ⟨rfl,?_⟩))
    refine wpS_bind (ZfS hC hP hk (Kept.d hKb hd) (by omega) (by omega) (by omega) hsb fun c m nq hK hm1 hm2 hs' hq he=>?_)
    have hcs:=hK.sz
    have hdc:=hK.d (Kept.d hKb hd)
    dsimp only
    by_cases hq0:nq>0
    ·rw[if_pos hq0]
     have hK2:Kept lo c (mirror c (lo+m-(nq+1)) (lo+m) ((lo+m-(lo+m-(nq+1)))/2)):=Kept.mir (by omega) (by omega)
     refine wpS_bind (Zcp ?_)
     refine Eq.mp ?_ (Zcd (Q:=Q) hC hP hk (hK2.d hdc) (by rw[hK2.sz];omega) (by omega) hm2 (hs'.eqv hC (Zdv hC (by omega) he)) fun d k hc=>h d k (Kept.tr hKb (hK.tr (hK2.tr hc))))
     refine congrArg (fun m=>wpS _ _ _ _ m _ _) ?_
     unfold tailO ascO
     refine congrArg _ (funext fun _=>congrArg _ (funext fun c=>?_))
     obtain⟨r3,n3⟩:=c
     cases r3<;>rfl
    ·rw[if_neg hq0]
     refine Eq.mp ?_ (Zcd (Q:=Q) hC hP hk hdc (by omega) (by omega) hm2 hs' fun d k hc=>h d k (Kept.tr hKb (hK.tr hc)))
     refine congrArg (fun m=>wpS _ _ _ _ m _ _) ?_
     unfold tailO ascO
     refine congrArg _ (funext fun _=>congrArg _ (funext fun c=>?_))
     obtain⟨r3,n3⟩:=c
     cases r3<;>rfl
  ·rw[if_neg hgt]
   obtain⟨b,hb,hKb,hsb⟩:∃b,b=a∧Kept lo a b∧SegD L b lo (lo+(n+1)):=⟨_,rfl,Kept.rf _ _,SegD.more hC (fun i j h1 h2 h3=>by
    replace h3:j<lo+n:=h3
    rw[show i=j by omega];exact hC.rf _) fun _=>hC.le hlt⟩
   rw[←hb]
   have hbs:=Kept.sz hKb
   refine wpS_bind (wpS_lift (wpAny_rule ⟨rfl,?_⟩))
   refine wpS_bind (ZfS hC hP hk (Kept.d hKb hd) (by omega) (by omega) (by omega) hsb fun c m nq hK hm1 hm2 hs' hq he=>?_)
   have hcs:=hK.sz
   have hdc:=hK.d (Kept.d hKb hd)
   dsimp only
   by_cases hq0:nq>0
   ·rw[if_pos hq0]
    have hK2:Kept lo c (mirror c (lo+m-(nq+1)) (lo+m) ((lo+m-(lo+m-(nq+1)))/2)):=Kept.mir (by omega) (by omega)
    refine wpS_bind (Zcp ?_)
    refine Eq.mp ?_ (Zcd (Q:=Q) hC hP hk (hK2.d hdc) (by rw[hK2.sz];omega) (by omega) hm2 (hs'.eqv hC (Zdv hC (by omega) he)) fun d k hc=>h d k (Kept.tr hKb (hK.tr (hK2.tr hc))))
    refine congrArg (fun m=>wpS _ _ _ _ m _ _) ?_
    unfold tailO ascO
    refine congrArg _ (funext fun _=>congrArg _ (funext fun c=>?_))
    obtain⟨r3,n3⟩:=c
    cases r3<;>rfl
   ·rw[if_neg hq0]
    refine Eq.mp ?_ (Zcd (Q:=Q) hC hP hk hdc (by omega) (by omega) hm2 hs' fun d k hc=>h d k (Kept.tr hKb (hK.tr hc)))
    refine congrArg (fun m=>wpS _ _ _ _ m _ _) ?_
    unfold tailO ascO
    refine congrArg _ (funext fun _=>congrArg _ (funext fun c=>?_))
    obtain⟨r3,n3⟩:=c
    cases r3<;>rfl
end
noncomputable def Pd (L:Keyed→Keyed→Bool):Nat→List (Nat×Nat×Nat)→List (List Keyed)→Prop
 | _,[],[]=>True
 | o,t::ps,r::rs=>t.1=o∧t.2.1=r.length∧r≠[]∧r.Pairwise (Le L)∧Pd L (o+r.length) ps rs
 | _,_,_=>False
section
variable {M:Model}{A:Around}{E:Value→Shared→Prop}{s:Shared}{D:Keyed→Prop}{L:Keyed→Keyed→Bool}{kd:SortKind}{st:SortSt}
theorem Pd.len:∀ {ps:List (Nat×Nat×Nat)} {rs:List (List Keyed)} {o:Nat},Pd L o ps rs→ps.length=rs.length
 | [],[],_,_=>rfl
 | t::ps,r::rs,o,h=>by have:=Pd.len h.2.2.2.2;simp[this]
 | [],_::_,_,h=>h.elim
 | _::_,[],_,h=>h.elim
theorem Pd.le:∀ {ps:List (Nat×Nat×Nat)} {rs:List (List Keyed)} {o:Nat},Pd L o ps rs→ps.length≤rs.flatten.length
 | [],[],_,_=>by simp
 | t::ps,r::rs,o,h=>by
  have h1:=Pd.le h.2.2.2.2
  have h2:=List.length_pos_iff.mpr h.2.2.1
  rw[List.flatten_cons,List.length_append,List.length_cons];omega
 | [],_::_,_,h=>h.elim
 | _::_,[],_,h=>h.elim
theorem Pd.app:∀ {ps:List (Nat×Nat×Nat)} {rs:List (List Keyed)} {o:Nat} {t:Nat×Nat×Nat} {r:List Keyed},Pd L o ps rs→t.1=o+rs.flatten.length→t.2.1=r.length→r≠[]→r.Pairwise (Le L)→Pd L o (ps++[t]) (rs++[r])
 | [],[],o,t,r,_,h1,h2,h3,h4=>⟨by simpa using h1,h2,h3,h4,trivial⟩
 | t::ps,r::rs,o,t',r',h,h1,h2,h3,h4=>⟨h.1,h.2.1,h.2.2.1,h.2.2.2.1,Pd.app h.2.2.2.2 (by rw[h1,List.flatten_cons,List.length_append];omega) h2 h3 h4⟩
 | [],_::_,_,_,_,h,_,_,_,_=>h.elim
 | _::_,[],_,_,_,h,_,_,_,_=>h.elim
theorem Pd.pow:∀ {ps qs:List (Nat×Nat×Nat)} {rs:List (List Keyed)} {o:Nat},Pd L o ps rs→ps.map (fun t=>(t.1,t.2.1))=qs.map (fun t=>(t.1,t.2.1))→Pd L o qs rs
 | [],qs,[],_,_,e=>by
  have:qs=[]:=by simpa using e.symm
  subst this;trivial
 | t::ps,qs,r::rs,o,h,e=>by
  cases qs with
  | nil=>simp at e
  | cons u qs=>
   simp only[List.map_cons,List.cons.injEq,Prod.mk.injEq]at e
   exact⟨e.1.1▸h.1,e.1.2▸h.2.1,h.2.2.1,h.2.2.2.1,Pd.pow h.2.2.2.2 e.2⟩
 | [],_,_::_,_,h,_=>h.elim
 | _::_,_,[],_,h,_=>h.elim
theorem Pd.pick:∀ {ps:List (Nat×Nat×Nat)} {rs:List (List Keyed)} {o i:Nat},Pd L o ps rs→i+1<ps.length →
  ∃ra X Y rb pw pw2,rs=ra++X::Y::rb∧ps[i]?=some (o+ra.flatten.length,X.length,pw)∧ps[i+1]?=some (o+ra.flatten.length+X.length,Y.length,pw2)∧X≠[]∧Y≠[]∧X.Pairwise (Le L)∧Y.Pairwise (Le L) ∧
   ∀V:List Keyed,V.length=X.length+Y.length→V.Pairwise (Le L)→Pd L o ((ps.set i (o+ra.flatten.length,X.length+Y.length,pw)).eraseIdx (i+1)) (ra++V::rb)
 | t::u::ps,r::r2::rs,o,0,h,_=>by
  obtain⟨a1,a2,a3,a4,b1,b2,b3,b4,b5⟩:=h
  obtain⟨t1,t2,t3⟩:=t
  obtain⟨u1,u2,u3⟩:=u
  dsimp only at a1 a2 b1 b2
  subst a1 a2 b1 b2
  refine⟨[],r,r2,rs,t3,u3,rfl,by simp,by simp,a3,b3,a4,b4,fun V hV hs=>?_⟩
  refine⟨by simp,by simpa using hV.symm,?_,hs,?_⟩
  ·intro e;rw[e]at hV;have:=List.length_pos_iff.mpr a3;simp at hV;omega
  ·rw[hV,←Nat.add_assoc];exact b5
 | t::ps,r::rs,o,i+1,h,hi=>by
  obtain⟨a1,a2,a3,a4,a5⟩:=h
  obtain⟨ra,X,Y,rb,pw,pw2,h1,h2,h3,h4,h5,h6,h7,h8⟩:=Pd.pick a5 (i:=i) (by simpa using hi)
  refine⟨r::ra,X,Y,rb,pw,pw2,by rw[h1];rfl,?_,?_,h4,h5,h6,h7,fun V hV hs=>?_⟩
  ·rw[List.getElem?_cons_succ,h2,List.flatten_cons,List.length_append,Nat.add_assoc]
  ·rw[List.getElem?_cons_succ,h3,List.flatten_cons,List.length_append,Nat.add_assoc o]
  ·have:=h8 V hV hs
   rw[List.set_cons_succ,List.eraseIdx_cons_succ,List.flatten_cons,List.length_append,←Nat.add_assoc]
   exact⟨a1,a2,a3,a4,this⟩
 | [_],[_],_,0,_,h=>by simp at h
 | [],_,_,_,_,h=>by simp at h
 | _::_,[],_,_,h,_=>h.elim
 | _::_::_,[_],_,0,h,_=>h.2.2.2.2.elim
 | [_],_::_::_,_,0,h,_=>h.2.2.2.2.elim
structure SI (L:Keyed→Keyed→Bool)(kd:SortKind)(a0:List Keyed)(n:Nat)(Z:List Keyed)(st:SortSt):Prop where
 kind:kindOf st=kd
 fail:failedOf st=none
 perm:(arrOf st).toList.Perm a0
 runs:∃rs:List (List Keyed),(arrOf st).toList=rs.flatten++Z∧rs.flatten.length=n∧Pd L 0 (pendingOf st).toList rs
theorem SI.merge {a0 Z:List Keyed}{n i:Nat}{Q:Bool→SortSt→Prop}(hC:CmpT L)(hP:PureC M A E s D L kd)(hd:∀u∈a0,D u)(h:SI L kd a0 n Z st)(hi:i+1<(pendingOf st).size)
  (q:∀st',SI L kd a0 n Z st'→(pendingOf st').size+1=(pendingOf st).size→Q true st'):wpS M A E s (mergeAt' i) Q st:=by
 obtain⟨h1,h2,h3,rs,h4,h5,h6⟩:=h
 obtain⟨ra,X,Y,rb,pw,pw2,rfl,p1,p2,p3,p4,p5,p6,p7⟩:=h6.pick (i:=i) (by simpa using hi)
 rw[Nat.zero_add]at p1 p2
 have ha:(arrOf st).toList=ra.flatten++X++Y++(rb.flatten++Z):=by rw[h4];simp
 refine Zlh hC.to hP h1 h2 ha (fun u hu=>hd u (h3.mem_iff.mp hu)) p3 p4 p5 p6 (by rw[←Array.getElem?_toList];exact p1) (by rw[←Array.getElem?_toList];exact p2) fun V a g hV hp hs=>?_
 have hl:=hp.length_eq
 rw[List.length_append]at hl
 refine q _ ⟨rfl,rfl,?_,ra++V::rb,?_,?_,?_⟩ ?_
 ·show a.toList.Perm a0
  refine List.Perm.trans ?_ h3
  rw[hV,ha]
  have:=(List.Perm.append_left ra.flatten hp).append_right (rb.flatten++Z)
  simpa using this
 ·show a.toList=_
  rw[hV];simp
 ·rw[←h5];simp[hl];omega
 ·show Pd L 0 (Array.eraseIdxIfInBounds _ _).toList _
  have:=p7 V hl hs
  rw[Nat.zero_add]at this
  rw[Array.toList_eraseIdxIfInBounds,Array.toList_setIfInBounds]
  exact this
 ·show (Array.eraseIdxIfInBounds _ _).size+1=_
  rw[←Array.length_toList,Array.toList_eraseIdxIfInBounds,Array.toList_setIfInBounds,List.length_eraseIdx_of_lt (by simpa using hi),List.length_set,Array.length_toList]
  omega
end
theorem Kept.pref {lo:Nat}{a b:Array Keyed}{F Z:List Keyed}(h:Kept lo a b)(ha:a.toList=F++Z)(hF:F.length=lo):b.toList=F++b.toList.drop lo:=by
 have e:b.toList.take lo=F:=by
  refine List.ext_getElem? fun i=>?_
  rw[List.getElem?_take]
  by_cases hi:i<lo
  ·rw[if_pos hi,Array.getElem?_toList,h.pre i hi,←Array.getElem?_toList,ha,List.getElem?_append_left (by omega)]
  ·rw[if_neg hi,List.getElem?_eq_none (by omega)]
 conv=>lhs;rw[←List.take_append_drop lo b.toList,e]
theorem SegU.pw {L:Keyed→Keyed→Bool}{b:Array Keyed}{lo m:Nat}(h:SegU L b lo (lo+m)):((b.toList.drop lo).take m).Pairwise (Le L):=by
 rw[List.pairwise_iff_getElem]
 intro i j hi hj hij
 rw[List.length_take,List.length_drop,Array.length_toList]at hi hj
 have e:∀k (hk:k<((b.toList.drop lo).take m).length),at0 b (lo+k)=((b.toList.drop lo).take m)[k]:=by
  intro k hk
  rw[List.length_take,List.length_drop,Array.length_toList]at hk
  unfold at0
  rw[getElem?_pos b (lo+k) (by omega)]
  simp
 rw[←e i (by simp;omega),←e j (by simp;omega)]
 exact h _ _ (by omega) (by omega) (by omega)
section
variable {M:Model}{A:Around}{E:Value→Shared→Prop}{s:Shared}{D:Keyed→Prop}{L:Keyed→Keyed→Bool}{kd:SortKind}{st:SortSt}
theorem SI.push {a0 R Z:List Keyed}{lo n p:Nat}(h:SI L kd a0 lo (R++Z) st)(h1:R.length=n)(h2:R≠[])(h3:R.Pairwise (Le L)):SI L kd a0 (lo+n) Z (setPending st ((pendingOf st).push (lo,n,p))):=by
 obtain⟨a1,a2,a3,rs,a4,a5,a6⟩:=h
 refine⟨a1,a2,a3,rs++[R],?_,?_,?_⟩
 ·show (arrOf st).toList=_
  rw[a4];simp
 ·simp[a5,h1]
 ·show Pd L 0 ((pendingOf st).push (lo,n,p)).toList _
  rw[Array.toList_push]
  exact a6.app (by simp[a5]) h1.symm h2 h3
theorem Zgg {α β:Type}(g:α→β)(f:α→α)(h:∀x,g (f x)=g x)(l:List α)(k:Nat):(l.modify k f).map g=l.map g:=by
 refine List.ext_getElem? fun i=>?_
 rw[List.getElem?_map,List.getElem?_map,List.getElem?_modify]
 cases l[i]? with
 | none=>rfl
 | some x=>by_cases e:k=i<;>simp[e,h]
theorem SI.pow {a0 Z:List Keyed}{lo k w:Nat}(h:SI L kd a0 lo Z st):SI L kd a0 lo Z (setPending st ((pendingOf st).modify k fun x=>(x.1,x.2.1,w))):=by
 obtain⟨a1,a2,a3,rs,a4,a5,a6⟩:=h
 refine⟨a1,a2,a3,rs,a4,a5,?_⟩
 show Pd L 0 ((pendingOf st).modify k _).toList _
 rw[Array.toList_modify]
 exact a6.pow (Zgg (fun t=>(t.1,t.2.1)) (fun x=>(x.1,x.2.1,w)) (fun _=>rfl) _ _).symm
theorem ZgS {a0:List Keyed}{Q:Unit→SortSt→Prop}(hC:CmpT L)(hP:PureC M A E s D L kd)(hd:∀u∈a0,D u)(hk:kindOf st=kd)(hf:failedOf st=none)(hpe:pendingOf st=#[])(ha:(arrOf st).toList=a0)
  (q:∀st',(arrOf st').toList.Perm a0→(arrOf st').toList.Pairwise (Le L)→failedOf st'=none→Q () st'):wpS M A E s sortRuns' Q st:=by
 rw[sortRuns'_eq]
 refine wpS_bind (wpS_get ?_)
 dsimp only
 obtain⟨N,hN⟩:∃N,N=(arrOf st).size:=⟨_,rfl⟩
 have hN':a0.length=N:=by rw[hN,←ha,Array.length_toList]
 rw[←hN]
 have hSI:SI L kd a0 0 a0 st:=⟨hk,hf,by rw[ha],[],by simpa using ha,rfl,by rw[hpe];trivial⟩
 refine wpS_bind (wpS_mono (wpS_forRange (a:=0) (b:=N) (I:=fun x c st'=>∃lo Z,c=(none,lo)∧SI L kd a0 lo Z st'∧x≤lo∧lo≤N)
  (Q:=fun c st'=>∃Z,c=(none,N)∧SI L kd a0 N Z st') ?step ?fin ⟨0,a0,rfl,hSI,by omega,by omega⟩) ?post)
 case fin=>
  rintro c st' ⟨lo,Z,rfl,hS,hx,hl⟩
  have:lo=N:=by omega
  subst this
  exact⟨Z,rfl,hS⟩
 case post=>
  rintro c st' ⟨Z,rfl,hS⟩
  have hZ:∀st',SI L kd a0 N Z st'→Z=[]:=by
   intro st' hS
   obtain⟨h1,h2,h3,rs,h4,h5,h6⟩:=hS
   have:=h3.length_eq
   rw[h4,List.length_append,h5,hN']at this
   exact List.length_eq_zero_iff.mp (by omega)
  dsimp only
  refine wpS_bind (wpS_mono (wpS_forRange (a:=0) (b:=N) (I:=fun x c st'=>c=(none,())∧SI L kd a0 N Z st'∧(pendingOf st').size+x≤N)
   (Q:=fun c st'=>c=(none,())∧SI L kd a0 N Z st'∧(pendingOf st').size≤1) ?s2 ?f2 ⟨rfl,hS,?_⟩) ?p2)
  case f2=>
   rintro c st' ⟨rfl,hS,hx⟩
   exact⟨rfl,hS,by omega⟩
  case p2=>
   rintro c st' ⟨rfl,hS,hx⟩
   obtain⟨h1,h2,h3,rs,h4,h5,h6⟩:=hS
   have:=hZ st' ⟨h1,h2,h3,rs,h4,h5,h6⟩
   subst this
   refine wpS_pure (q st' h3 ?_ h2)
   have hl:=h6.len
   rw[Array.length_toList]at hl
   rw[h4,List.append_nil]
   cases rs with
   | nil=>exact List.Pairwise.nil
   | cons r rs=>
    cases rs with
    | nil=>
     cases hps:(pendingOf st').toList with
     | nil=>rw[hps]at h6;exact h6.elim
     | cons t ps=>rw[hps]at h6;simpa using h6.2.2.2.1
    | cons r2 rs=>simp at hl;omega
  case s2=>
   rintro x c st' _ hx ⟨rfl,hS,hpx⟩
   refine wpS_bind (wpS_get ?_)
   by_cases hp1:(pendingOf st').size≤1
   ·rw[if_pos hp1]
    exact wpS_pure ⟨rfl,hS,hp1⟩
   ·rw[if_neg hp1]
    refine wpS_bind (hS.merge hC hP hd ?_ fun st2 hS2 hp2=>?_)
    ·have hle:∀(c:Prop) [Decidable c] (k:Nat),(if c then k-1 else k)≤k:=fun c _ k=>by split<;>omega
     exact Nat.lt_of_le_of_lt (Nat.succ_le_succ (hle _ _)) (by omega)
    ·exact wpS_pure ⟨rfl,hS2,by omega⟩
  ·obtain⟨h1,h2,h3,rs,h4,h5,h6⟩:=hS
   have:=h6.le
   rw[Array.length_toList]at this
   omega
 case step=>
  rintro x c st' _ hx ⟨lo,Z,rfl,hS,hxl,hl⟩
  dsimp only
  by_cases hlo:lo≥N
  ·rw[if_pos hlo]
   have:lo=N:=by omega
   subst this
   exact wpS_pure ⟨Z,rfl,hS⟩
  rw[if_neg hlo]
  obtain⟨h1,h2,h3,rs,h4,h5,h6⟩:=hS
  have hsz:(arrOf st').size=N:=by rw[←Array.length_toList,h3.length_eq,hN']
  have hda:∀u∈(arrOf st').toList,D u:=fun u hu=>hd u (h3.mem_iff.mp hu)
  refine wpS_bind (Eq.mp (congrArg (fun v=>wpS M A E s (countRun' lo (N-lo)) _ v) (show setArr st' (arrOf st')=st' from rfl)) (Zj7 hC hP h1 hda (by omega) (by omega) fun b m hK hm1 hm2 hsm=>?_))
  dsimp only
  have hbz:=hK.sz
  by_cases hmr:m<minRun' N N 0
  ·rw[if_pos hmr]
   obtain⟨n,hn⟩:∃n,n=min (N-lo) (minRun' N N 0):=⟨_,rfl⟩
   rw[←hn]
   refine wpS_bind (wpS_lift (wpAny_rule ⟨rfl,?_⟩))
   refine wpS_bind (Zka hC hP h1 (hK.d hda) (by omega) (by omega) hsm fun b2 hK2 hs2=>?_)
   rw[if_neg (by simp)]
   have hKb:=hK.tr hK2
   have hn1:1≤n:=by omega
   have hn2:n≤N-lo:=by omega
   have hbz2:=Kept.sz hKb
   have hb1:=Kept.pref hKb h4 h5
   obtain⟨R,hR⟩:∃R,R=(List.drop lo (Array.toList b2)).take n:=⟨_,rfl⟩
   obtain⟨Z2,hZ2⟩:∃Z2,Z2=(List.drop lo (Array.toList b2)).drop n:=⟨_,rfl⟩
   have hRZ:(List.drop lo (Array.toList b2))=R++Z2:=by rw[hR,hZ2,List.take_append_drop]
   have hRl:R.length=n:=by rw[hR,List.length_take,List.length_drop,Array.length_toList];omega
   have hRn:R≠[]:=by intro e;rw[e]at hRl;simp at hRl;omega
   have hRs:R.Pairwise (Le L):=by rw[hR];exact SegU.pw hs2
   have hS:SI L kd a0 lo (R++Z2) (setArr st' b2):=⟨h1,h2,(Array.perm_iff_toList_perm.mp (Kept.perm hKb)).trans h3,rs,by rw[←hRZ];exact hb1,h5,h6⟩
   refine wpS_bind (wpS_get ?_)
   cases hb:(pendingOf (setArr st' b2)).back? with
   | none=>
    dsimp only
    exact wpS_bind (wpS_modify (wpS_pure ⟨lo+n,Z2,rfl,hS.push hRl hRn hRs,by omega,by omega⟩))
   | some t=>
    obtain⟨s1,n1,p1⟩:=t
    dsimp only
    refine wpS_bind (wpS_mono (wpS_forRange (a:=0) (b:=N) (I:=fun y c st2=>c=(none,())∧SI L kd a0 lo (R++Z2) st2) (Q:=fun c st2=>c=(none,())∧SI L kd a0 lo (R++Z2) st2) ?_ (fun _ _ h=>h) ⟨rfl,hS⟩) ?_)
    ·rintro y c st2 _ _ ⟨hc,hS2⟩
     subst hc
     refine wpS_bind (wpS_get ?_)
     by_cases hp:(pendingOf st2).size>1
     ·rw[if_pos hp]
      obtain⟨t,ht⟩:∃t,(pendingOf st2)[(pendingOf st2).size-2]?=some t:=⟨_,getElem?_pos _ _ (by omega)⟩
      obtain⟨t1,t2,t3⟩:=t
      rw[ht]
      dsimp only
      split
      ·exact wpS_pure ⟨rfl,hS2⟩
      ·exact wpS_bind (hS2.merge hC hP hd (by omega) fun st3 hS3 _=>wpS_pure ⟨rfl,hS3⟩)
     ·rw[if_neg hp]
      exact wpS_pure ⟨rfl,hS2⟩
    ·rintro c st2 ⟨hc,hS2⟩
     subst hc
     exact wpS_bind (wpS_modify (wpS_bind (wpS_modify (wpS_pure ⟨lo+n,Z2,rfl,hS2.pow.push hRl hRn hRs,by omega,by omega⟩))))
  ·rw[if_neg hmr]
   have hKb:=hK
   have hbz2:=Kept.sz hKb
   have hb1:=Kept.pref hKb h4 h5
   obtain⟨R,hR⟩:∃R,R=(List.drop lo (Array.toList b)).take m:=⟨_,rfl⟩
   obtain⟨Z2,hZ2⟩:∃Z2,Z2=(List.drop lo (Array.toList b)).drop m:=⟨_,rfl⟩
   have hRZ:(List.drop lo (Array.toList b))=R++Z2:=by rw[hR,hZ2,List.take_append_drop]
   have hRl:R.length=m:=by rw[hR,List.length_take,List.length_drop,Array.length_toList];omega
   have hRn:R≠[]:=by intro e;rw[e]at hRl;simp at hRl;omega
   have hRs:R.Pairwise (Le L):=by rw[hR];exact SegU.pw hsm
   have hS:SI L kd a0 lo (R++Z2) (setArr st' b):=⟨h1,h2,(Array.perm_iff_toList_perm.mp (Kept.perm hKb)).trans h3,rs,by rw[←hRZ];exact hb1,h5,h6⟩
   refine wpS_bind (wpS_get ?_)
   cases hb:(pendingOf (setArr st' b)).back? with
   | none=>
    dsimp only
    exact wpS_bind (wpS_modify (wpS_pure ⟨lo+m,Z2,rfl,hS.push hRl hRn hRs,by omega,by omega⟩))
   | some t=>
    obtain⟨s1,n1,p1⟩:=t
    dsimp only
    refine wpS_bind (wpS_mono (wpS_forRange (a:=0) (b:=N) (I:=fun y c st2=>c=(none,())∧SI L kd a0 lo (R++Z2) st2) (Q:=fun c st2=>c=(none,())∧SI L kd a0 lo (R++Z2) st2) ?_ (fun _ _ h=>h) ⟨rfl,hS⟩) ?_)
    ·rintro y c st2 _ _ ⟨hc,hS2⟩
     subst hc
     refine wpS_bind (wpS_get ?_)
     by_cases hp:(pendingOf st2).size>1
     ·rw[if_pos hp]
      obtain⟨t,ht⟩:∃t,(pendingOf st2)[(pendingOf st2).size-2]?=some t:=⟨_,getElem?_pos _ _ (by omega)⟩
      obtain⟨t1,t2,t3⟩:=t
      rw[ht]
      dsimp only
      split
      ·exact wpS_pure ⟨rfl,hS2⟩
      ·exact wpS_bind (hS2.merge hC hP hd (by omega) fun st3 hS3 _=>wpS_pure ⟨rfl,hS3⟩)
     ·rw[if_neg hp]
      exact wpS_pure ⟨rfl,hS2⟩
    ·rintro c st2 ⟨hc,hS2⟩
     subst hc
     exact wpS_bind (wpS_modify (wpS_bind (wpS_modify (wpS_pure ⟨lo+m,Z2,rfl,hS2.pow.push hRl hRn hRs,by omega,by omega⟩))))
end
noncomputable def keyD (κ:KeyKind) (p:Keyed):κ.α:=(κ.keyOf p.1).getD κ.dflt
noncomputable def ltD (κ:KeyKind) (x y:Keyed):Bool:=κ.blt (keyD κ x) (keyD κ y)
theorem ZjL (κ:KeyKind):CmpT (ltD κ):=
 ⟨fun x y _ _ h=>KeyOrd.klt_asymm (O:=κ.toKeyOrd) h,fun x y z _ _ _ h1 h2=>KeyOrd.kle_trans (O:=κ.toKeyOrd) h1 h2⟩
section
variable {prog:Program}{w:World}{A:Around}{E:Value→Shared→Prop}{s:Shared}{κ:KeyKind}
theorem Zid (hO:κ.OneLt):PureC (model prog w) A E s (fun p=>∃a,κ.keyOf p.1=some a) (ltD κ) oneType':=by
 rintro st ⟨x,p⟩ ⟨y,r⟩ Q hk ⟨a,ha⟩ ⟨b,hb⟩ q
 have e:ltD κ (x,p) (y,r)=κ.blt a b:=by unfold ltD keyD;rw[ha,hb];rfl
 rw[e]at q
 rw[lt'_eq]
 refine wpS_bind (wpS_get ?_)
 rw[hk,keyLt'_oneType]
 exact wpS_bind (wpS_lift (wpAny_attempt (hO prog w A _ s x y a b ha hb ⟨rfl,wpS_pure q⟩)))
theorem ZhU {a0:Array Keyed}{st:SortSt}{Q:Unit→SortSt→Prop}(hO:κ.OneLt)(h0:KeysOf κ a0)(hk:kindOf st=oneType')(hf:failedOf st=none)(hp:pendingOf st=#[])(ha:arrOf st=a0)
  (q:∀st',(arrOf st').Perm a0→failedOf st'=none→SortedToK κ (arrOf st') a0.size→Q () st'):wpS (model prog w) A E s sortRuns' Q st:=by
 refine ZgS (a0:=a0.toList) (ZjL κ) (Zid hO) h0 hk hf hp (by rw[ha]) fun st' p1 p2 p3=>q st' (Array.perm_iff_toList_perm.mpr p1) p3 ?_
 have hsz:(arrOf st').size=a0.size:=by rw[←Array.length_toList,p1.length_eq,Array.length_toList]
 intro i j hij hj
 have hK:∀k (hk:k<(arrOf st').size),KK κ (arrOf st') k=keyD κ ((arrOf st').toList[k]'(by simpa using hk)):=by
  intro k hk
  unfold KK keyD
  rw[getElem?_pos _ k hk];rfl
 rw[hK i (by omega),hK j (by omega)]
 by_cases e:i=j
 ·subst e;exact KeyOrd.kle_refl _
 ·exact List.pairwise_iff_getElem.mp p2 i j (by simp;omega) (by simp;omega) (by omega)
end
section
variable {prog:Program}{w:World}{A:Around}{E:Value→Shared→Prop}{s:Shared}{κ:KeyKind}
theorem ZhT (hO:κ.OneLt) {a:Addr} {vs:List Value} {n:Nat} {P:Fin→Shared→Prop} (ho:s.heap.get? a=some (seqObj "list" vs.toArray n))
  (h0:KeysOf κ (pairsOf vs)) (hkk:∀x y r,vs=x::y::r→keyKind' (x::y::r).toArray=pure oneType') (hN:vs.length≤sizeLine)
  (h:∀v:SortSt,(arrOf v).Perm (pairsOf vs)→SortedToK κ (arrOf v) (pairsOf vs).size→P (.done (.ret .none)) { s with heap:=sortedHeap s.heap a vs ((arrOf v).map (·.2)) }):
  wpAny (model prog w) A (Builtin.«list.sort» ⟨[.ref a],[]⟩) P E s:=by
 by_cases h64:vs.length<64
 ·exact list_sort_treeK hO ho h0 hkk h64 h
 obtain⟨x,y,r,hv⟩:∃x y r,vs=x::y::r:=by
  match vs,h64 with
  | x::y::r,_=>exact⟨x,y,r,rfl⟩
  | [x],h=>simp at h
  | [],h=>simp at h
 have h2:¬vs.toArray.size<2:=by rw[List.size_toArray];omega
 have hlt:a<s.heap.objs.size:=Heap.lt_size ho
 have up:=get?_update_seq ho (fun _=>#[])
 generalize hep:(if (#[]:Array Value).size == vs.toArray.size then n else n+1)=ep at up
 have up3:(((s.heap.update a (Obj.mapSeq fun _=>#[])).push (seqObj "tuple" vs.toArray 0)).push (seqObj "list" #[] 0)).get? a=some (seqObj "list" #[] ep):=by
  rw[Heap.get?_push_ne,Heap.get?_push_ne]
  ·exact up
  ·rw[Heap.size_update];exact Nat.ne_of_lt hlt
  ·rw[size_push',Heap.size_update];exact Nat.ne_of_lt (Nat.lt_succ_of_lt hlt)
 rw[list_sort_plain]
 refine wpAny_bind (listItems_at ho rfl (wpAny_bind (listUpdate_at ho rfl (wpAny_bind (seqEpoch_at up rfl (wpAny_bind (wpAny_newTuple (wpAny_bind (wpAny_newList (wpAny_holding ?_)))))) ) (hsz:=by rw[List.size_toArray];exact hN))))
 dsimp only
 rw[if_neg h2,if_neg h2]
 have hk1:keyKind' vs.toArray=pure oneType':=by rw[hv];exact hkk x y r hv
 rw[hk1]
 refine wpAny_bind (wpAny_pure (wpAny_bind (wpAny_mono (ZhU hO h0 (st:=SortSt.mk' oneType' (pairsOf vs) #[] 7 none) (Q:=fun _ v=>(arrOf v).Perm (pairsOf vs)∧failedOf v=none∧SortedToK κ (arrOf v) (pairsOf vs).size) rfl rfl rfl rfl fun v p1 p2 p3=>⟨p1,p2,p3⟩) ?_ fun _ _ e=>e)))
 rintro⟨⟨⟩,v⟩ s2 ⟨rfl,p1,p2,p3⟩
 dsimp only
 refine wpAny_bind (seqEpoch_at up3 rfl (wpAny_bind (listUpdate_at up3 rfl ?_ (hsz2:=?_))))
 ·rw[p2,bne_self_eq_false]
  exact wpAny_pure (h v p1 p3)
 ·rw[Array.size_map,p1.size_eq,pairsOf_size];omega
end
section
variable {prog:Program}{w:World}{A:Around}{E:Value→Shared→Prop}{s:Shared}
theorem Zf2 {vs:List Value}{ms:List (List Nat)}{Q:Value→Shared→Prop}(hv:Vals (ms.map tx) vs)(h64:ms.length≤sizeLine)
  (h:∀(h':Heap) (us:List Value) (e:Nat),(∀b o,s.heap.get? b=some o→h'.get? b=some o)→h'.get? s.heap.objs.size=some { cls:=.type "list",data:=.seq us.toArray e }→Vals ((Zbn ms).map tx) us→Q (.ref s.heap.objs.size) { s with heap:=h' }):
  wpAny (model prog w) A (do let l ←newList vs;let _ ←holding [l] (call (.builtin "list.sort") [l] []);ret l) (fun fin s'=>∃v,fin=Fin.done (Flow.ret v)∧Q v s') E s:=by
 have hS:=ZdW hv
 have hlen:vs.length≤sizeLine:=by rw[←hv.length,List.length_map];exact h64
 refine wpAny_bind (wpAny_newList ?_ ?_)
 ·have hoL:(s.heap.push (seqObj "list" vs.toArray 0)).get? s.heap.objs.size=some (seqObj "list" vs.toArray 0):=Heap.get?_push_size _ rfl
  refine wpAny_bind (wpAny_holding (wpAny_call_entry slot_list_sort ⟨_,hoL,rfl⟩ entry_list_sort (ZhT strKind_oneLt hoL hS.keysOf (fun v₁ v₂ rest e=>keyKind_strs (by rw[←e];exact hS)) hlen fun st' a1 a2=>⟨_,rfl,?_⟩) (args_list_sort _)))
  obtain⟨ss',b1,b2,b3⟩:=sorted_out_str hS a1 a2
  obtain⟨e,he⟩:=sortedHeap_at (out:=(arrOf st').map (·.2)) hoL
  refine wpAny_pure ⟨_,rfl,h _ ((arrOf st').map (·.2)).toList e (fun b o q=>?_) ?_ ?_⟩
  ·have hlt:=Heap.lt_size q
   have hlt':b<(s.heap.push (seqObj "list" vs.toArray 0)).objs.size:=by rw[Heap.size_push];exact Nat.lt_succ_of_lt hlt
   exact(sortedHeap_old (Nat.ne_of_lt hlt) hlt').trans (Heap.get?_push_of_some _ q)
  ·have q:((arrOf st').map (·.2)).toList.toArray=(arrOf st').map (·.2):=Array.toArray_toList
   rw[q];exact he
  ·have p1:(ss'.map fun x=>x.cps.toList).Perm ms:=by
    have:=b2.map (fun x:Str=>x.cps.toList)
    rwa [ZfW]at this
   have e1:=Zbw p1 (ZbM b3)
   rw[←e1]
   exact ZeN b1
 ·exact hlen
end
section
variable {X:Cx}{e:Expr}{ta:TA}{p p2 pos kpos:Pos}
theorem ZdM (hc:X.calm=true):ZbC X (.builtin "sorted") (fun xs H Q=>∃a ls,xs=[.ref a]∧H a=some (.lst (ls.map tx))∧ls.length≤sizeLine∧NewL ((Zbn ls).map tx) H Q):=by
 rintro pins s σ H xs us Q I r ⟨a,ls,rfl,ha,h64,q⟩
 obtain⟨u,rfl,ru⟩:=r.one
 cases ru
 obtain⟨_,its,n,r2,hlen,eo⟩:=I.lstM ha
 have hl:(Zbn ls).length≤sizeLine:=by rw[(ZaK ls).length_eq];exact h64
 have li:its.length=ls.length:=by rw[←r2.length,List.length_map]
 refine Calls.call_function_entry kind_sorted plain_sorted entry_sorted (args_sorted1 _) ?_
 unfold Builtin.«sorted»
 refine wpAny_bind (m:=checkCount "sorted" 1 1 _) (wpAny_pure ?_)
 refine wpAny_bind (collect_list (PySem.IsL.isList eo) ?_ (by rw[li];exact h64))
 have sb:=Heap.SameBut.update (s.heap.push (seqObj "list" #[] 0)) s.heap.objs.size (Obj.mapSeq (·++its.toArray))
 have k1:∀b o,s.heap.get? b=some o→((s.heap.push (seqObj "list" #[] 0)).update s.heap.objs.size (Obj.mapSeq (·++its.toArray))).get? b=some o:=fun b o e=>(sb.2 b (Nat.ne_of_lt (Heap.lt_size e))).trans (Heap.get?_push_of_some _ e)
 refine Zf2 (s:={ s with heap:=(s.heap.push (seqObj "list" #[] 0)).update s.heap.objs.size (Obj.mapSeq (·++its.toArray)) }) r2 h64 fun h' us e k2 he rr=>?_
 generalize ((s.heap.push (seqObj "list" #[] 0)).update s.heap.objs.size (Obj.mapSeq (·++its.toArray)))=g at k1 k2 he ⊢
 have nw:s.heap.get? g.objs.size=none:=by
  cases z:s.heap.get? g.objs.size with
  | none=>rfl
  | some o=>exact absurd (Heap.lt_size (k1 _ _ z)) (Nat.lt_irrefl _)
 exact⟨.ref g.objs.size,_,I.laid2 (s':={ s with heap:=h' }) (o:=.lst ((Zbn ls).map tx)) rfl rfl (fun b o z=>k2 b o (k1 b o z)) nw ⟨by rw[List.length_map];exact hl,us,e,rr,he⟩,rfl,q _ (I.hok.none_of nw)⟩
end
theorem Zei (b:Bool)(x y:Value):keyLt' (tuples' b) x y=(do
  let xs ←Builtin.List.listItems x
  let ys ←Builtin.List.listItems y
  for ((p,r),i) in (xs.toList.zip ys.toList).zipIdx do
   if !(←eqBool p r) then return ←oneLt' (b&&i == 0) p r
  return xs.size<ys.size):=rfl
noncomputable def keyT (h:Heap):Value→Int×List Nat
 | .ref a=>match h.get? a with
  | some o=>match o.data with
   | .seq xs _=>match xs.toList with
    | [.int n _,.str w _]=>(n,w.cps.toList)
    | _=>(0,[])
   | _=>(0,[])
  | none=>(0,[])
 | _=>(0,[])
noncomputable def ltP (a b:Int×List Nat):Bool:=decide (a.1<b.1) || (a.1 == b.1&&decide (a.2<b.2))
noncomputable def ltT (h:Heap) (x y:Keyed):Bool:=ltP (keyT h x.1) (keyT h y.1)
theorem Ze1 {a b:Int×List Nat}:ltP a b=true↔a.1<b.1∨(a.1=b.1∧a.2<b.2):=by
 unfold ltP;simp
theorem Zhd {a b:Int×List Nat}:ltP b a=false↔a.1<b.1∨(a.1=b.1∧¬b.2<a.2):=by
 rw[←Bool.not_eq_true,Ze1]
 constructor
 ·intro h
  by_cases e:a.1=b.1
  ·exact .inr ⟨e,fun k=>h (.inr ⟨e.symm,k⟩)⟩
  ·exact .inl (by
    have:¬b.1<a.1:=fun k=>h (.inl k)
    omega)
 ·rintro (h | ⟨h,k⟩) (l | ⟨l,m⟩)
  ·omega
  ·omega
  ·omega
  ·exact k m
theorem ZjJ (h:Heap):CmpT (ltT h):=by
 refine⟨fun x y _ _ e=>?_,fun x y z _ _ _ e f=>?_⟩
 ·unfold ltT at e ⊢
  rw[Ze1]at e
  rw[Zhd]
  rcases e with e | ⟨e,f⟩
  ·exact .inl e
  ·exact .inr ⟨e,List.lt_asymm f⟩
 ·unfold ltT at e f ⊢
  rw[Zhd]at e f ⊢
  rcases e with e | ⟨e,e2⟩<;>rcases f with f | ⟨f,f2⟩
  ·exact .inl (by omega)
  ·exact .inl (by omega)
  ·exact .inl (by omega)
  ·exact .inr ⟨by omega,List.not_lt.mpr (List.le_trans (List.not_lt.mp e2) (List.not_lt.mp f2))⟩
noncomputable def IsT (h:Heap) (v:Value) (n:Int) (c:List Nat):Prop:=∃a t w u e,v=.ref a∧h.get? a=some (seqObj "tuple" #[.int n t,.str w u] e)∧w.cps.toList=c
theorem IsT.key {h:Heap}{v:Value}{n:Int}{c:List Nat}(k:IsT h v n c):keyT h v=(n,c):=by
 obtain⟨a,t,w,u,e,rfl,ho,rfl⟩:=k
 unfold keyT;dsimp only;rw[ho]
section
variable {prog:Program}{w:World}{A:Around}{E:Value→Shared→Prop}{s:Shared}
theorem Zge {a b:Str}{t u:Tok}{Q:Bool→Shared→Prop}(h:Q (decide (a.cps.toList<b.cps.toList)) s):wpAny (model prog w) A (oneLt' false (.str a t) (.str b u)) Q E s:=by
 rw[oneLt'_eq]
 simp only[Bool.false_eq_true,if_false]
 refine wpAny_bind (wpAny_richCompare_same (typeIs_str s a t) (typeIs_str s b u) slot_str_lt (call_str_lt ⟨(fun z=>nomatch z),?_⟩))
 exact wpAny_truthy_bool h
theorem Zic:PureC (model prog w) A E s (fun p=>∃n c,IsT s.heap p.1 n c) (ltT s.heap) (tuples' true):=by
 rintro st ⟨x,p⟩ ⟨y,r⟩ Q hk ⟨n,c,hx⟩ ⟨m,d,hy⟩ q
 have e:ltT s.heap (x,p) (y,r)=ltP (n,c) (m,d):=by unfold ltT;rw[hx.key,hy.key]
 rw[e]at q
 obtain⟨a,t,v,u,ep,rfl,ho,rfl⟩:=hx
 obtain⟨b,t2,v2,u2,ep2,rfl,ho2,rfl⟩:=hy
 rw[lt'_eq]
 refine wpS_bind (wpS_get ?_)
 rw[hk,Zei]
 refine wpS_bind (wpS_lift (wpAny_attempt (wpAny_bind (listItems_at ho rfl (wpAny_bind (listItems_at ho2 rfl ?_))))))
 show wpAny _ _ (forIn [((Value.int n t,Value.int m t2),0),((Value.str v u,Value.str v2 u2),1)] _ _ >>= _) _ _ _
 rw[List.forIn_cons]
 refine wpAny_bind (wpAny_bind (wpAny_bind (wpAny_eqBool_int ?_)))
 by_cases hnm:n=m
 ·subst hnm
  rw[if_neg (by simp)]
  refine wpAny_pure ?_
  dsimp only
  rw[List.forIn_cons]
  refine wpAny_bind (wpAny_bind (eqBool_str ?_))
  by_cases hv:v=v2
  ·subst hv
   rw[if_neg (by simp)]
   refine wpAny_pure ?_
   dsimp only
   rw[List.forIn_nil]
   refine wpAny_pure ?_
   dsimp only
   refine wpAny_pure ⟨rfl,wpS_pure ?_⟩
   have:ltP (n,v.cps.toList) (n,v.cps.toList)=false:=by unfold ltP;simp[List.lt_irrefl]
   rw[this]at q
   simpa using q
  ·rw[if_pos (by simpa using hv)]
   refine wpAny_bind (Zge (wpAny_pure (wpAny_pure ?_)))
   dsimp only
   refine wpAny_pure ⟨rfl,wpS_pure ?_⟩
   have:ltP (n,v.cps.toList) (n,v2.cps.toList)=decide (v.cps.toList<v2.cps.toList):=by unfold ltP;simp
   rw[this]at q
   exact q
 ·rw[if_pos (by simpa using hnm)]
  refine wpAny_bind (oneLt_int (wpAny_pure (wpAny_pure ?_)))
  dsimp only
  refine wpAny_pure ⟨rfl,wpS_pure ?_⟩
  have:ltP (n,v.cps.toList) (m,v2.cps.toList)=decide (n<m):=by unfold ltP;simp[hnm]
  rw[this]at q
  exact q
end
structure Lin {α:Type}(lt:α→α→Bool):Prop where
 asym:∀a b,lt a b=true→lt b a=false
 trans:∀a b c,lt a b=true→lt b c=true→lt a c=true
 tri:∀a b,lt a b=false→lt b a=false→a=b
section
variable {prog:Program}{w:World}{A:Around}{E:Value→Shared→Prop}{s:Shared}
end
section
variable {prog:Program}{w:World}{A:Around}{E:Value→Shared→Prop}{s:Shared}
theorem ZbE:∀ {vs:List Value} {Q:List (Option Value)→Shared→Prop},(∀v∈vs,∃n c,IsT s.heap v n c) →
  (∀us:List Value,us.length=vs.length→(∀u∈us,∃n t,u=.int n t)→Q (us.map some) s)→wpAny (model prog w) A (vs.mapM firstOfTuple') Q E s
 | [],Q,_,q=>by rw[List.mapM_nil];exact wpAny_pure (q [] rfl (by simp))
 | v::vs,Q,h,q=>by
  obtain⟨n,c,a,t,x,u,e,rfl,ho,rfl⟩:=h v (by simp)
  rw[List.mapM_cons]
  refine wpAny_bind ?_
  show wpAny _ _ (do
   if (←typeOf (.ref a)) != .type "tuple" then return none
   return (←Builtin.List.listItems (.ref a))[0]?) _ _ _
  refine wpAny_bind (wpAny_typeOf_ref ho ?_)
  rw[if_neg (show ¬((Value.type "tuple" != Value.type "tuple")=true) by decide)]
  refine wpAny_bind (listItems_at ho rfl (wpAny_pure ?_))
  refine wpAny_bind (ZbE (fun v hv=>h v (by simp[hv])) fun us hl hu=>wpAny_pure ?_)
  refine q (.int n t::us) (by simp[hl]) fun u hu'=>?_
  rcases List.mem_cons.mp hu' with rfl | hu'
  ·exact⟨n,t,rfl⟩
  ·exact hu u hu'
theorem Ze3 {vs:List Value}{Q:SortKind→Shared→Prop}(hv:∀v∈vs,∃n c,IsT s.heap v n c)(hne:vs≠[])(q:Q (tuples' true) s):wpAny (model prog w) A (keyKind' vs.toArray) Q E s:=by
 rw[keyKind'_eq,List.mapM_toArray,map_eq_pure_bind,bind_assoc]
 refine wpAny_bind (ZbE hv fun us hl hu=>?_)
 rw[pure_bind,if_pos (by simp)]
 refine wpAny_bind (wpAny_rule ?_)
 have hI:IntsAre us (us.map numOf):=intsAre_map us hu
 have e1:((us.map some).toArray.filterMap id)=us.toArray:=by simp
 rw[e1,oneTypeOnly'_eq,List.mapM_toArray,mapM_typeOf_ints hI]
 cases us with
 | nil=>
  cases vs with
  | nil=>exact absurd rfl hne
  | cons v vs=>simp at hl
 | cons u us=>
  simp only[map_pure,pure_bind]
  have h0:(List.map (fun _=>Value.type "int") (u::us)).toArray[0]?=some (Value.type "int"):=by simp
  have hall:((List.map (fun _=>Value.type "int") (u::us)).toArray.all fun z=>z == Value.type "int")=true:=by
   rw[List.all_toArray,List.all_map,List.all_eq_true]
   exact fun _ _=>rfl
  rw[h0]
  simp only[hall,if_true,pure_bind]
  exact wpAny_pure q
end
section
variable {prog:Program}{w:World}{A:Around}{E:Value→Shared→Prop}{s:Shared}
end
section
variable {X:Cx}
end
theorem ZaI {x y:List Nat}(e:kTx x=kTx y):x=y:=by unfold kTx at e;injection e with e;injection e with e;injection e
theorem Zik (l:List Nat)(k:Nat):Inf (l.take k) l:=⟨0,by rw[List.length_take];omega,by rw[List.drop_zero,List.take_eq_take_iff,List.length_take];omega⟩
instance (w l:List Nat):Decidable (Inf w l):=decidable_of_iff (∃i,i<l.length+1∧i+w.length≤l.length∧(l.drop i).take w.length=w) ⟨fun ⟨i,_,h⟩=>⟨i,h⟩,fun ⟨i,h⟩=>⟨i,by have:=h.1;omega,h⟩⟩
def Av (W:List (List Nat))(w:List Nat):Prop:=∀v∈W,¬Inf v w
def Stem (W:List (List Nat))(u:List Nat):Prop:=u=[]∨∃v∈W,∃k,k<v.length∧u=v.take k
def ZdP (W:List (List Nat))(u e:List Nat):Prop:=∃d,d≤u.length∧e=u.drop d∧Stem W e∧∀j,j<d→¬Stem W (u.drop j)
theorem Av.inf {W:List (List Nat)}{u w:List Nat}(h:Av W w)(hu:Inf u w):Av W u:=fun v hv hi=>h v hv (hi.trans hu)
theorem Zim (a b:List Nat):Inf a (a++b):=⟨0,by rw[List.length_append];omega,by rw[List.drop_zero,List.take_left]⟩
theorem Zi6 {W:List (List Nat)}{u e:List Nat}(hu:Av W u)(he:ZdP W u e)(x:List Nat):Av W (u++x)↔Av W (e++x):=by
 obtain⟨d,hd,rfl,hs,hm⟩:=he
 have ed:(u++x).drop d=u.drop d++x:=List.drop_append_of_le_length hd
 constructor
 ·intro h
  refine h.inf ?_
  rw[←ed]
  by_cases z:d≤(u++x).length
  ·exact⟨d,by rw[List.length_drop];omega,by rw[List.take_length]⟩
  ·rw[List.drop_eq_nil_of_le (by omega)];exact Inf.nil _
 ·rintro h v hv ⟨i,h1,h2⟩
  rw[List.length_append]at h1
  by_cases c1:i+v.length≤u.length
  ·refine hu v hv ⟨i,c1,?_⟩
   rw[List.drop_append_of_le_length (by omega),List.take_append_of_le_length (by rw[List.length_drop];omega)]at h2
   exact h2
  ·by_cases c2:d≤i
   ·refine h v hv ⟨i-d,?_,?_⟩
    ·rw[List.length_append,List.length_drop];omega
    ·rw[←ed,List.drop_drop]
     have:d+(i-d)=i:=by omega
     rw[this];exact h2
   ·refine hm i (by omega) (.inr ⟨v,hv,u.length-i,by omega,?_⟩)
    rw[←h2,List.take_take]
    have e1:min (u.length-i) v.length=u.length-i:=by omega
    rw[e1,List.drop_append_of_le_length (by omega),List.take_append_of_le_length (by rw[List.length_drop];exact Nat.le_refl _),List.take_of_length_le (by rw[List.length_drop];exact Nat.le_refl _)]
def Anti (W:List (List Nat)):Prop:=∀v∈W,∀w∈W,Inf v w→v=w
theorem Zjk {W:List (List Nat)}(ha:Anti W)(hn:∀v∈W,v≠[]){u:List Nat}(h:Stem W u):Av W u:=by
 rintro v hv hi
 rcases h with rfl | ⟨w,hw,k,hk,rfl⟩
 ·have:=hi.len
  exact hn v hv (List.length_eq_zero_iff.mp (by simpa using this))
 ·have hl:=hi.len
  rw[List.length_take]at hl
  have e:=ha v hv w hw (hi.trans (Zik w k))
  rw[e]at hl
  omega
theorem ZfK (W:List (List Nat))(u:List Nat):∃e,ZdP W u e:=by
 classical
 have:∃d,Stem W (u.drop d):=⟨u.length,.inl (List.drop_eq_nil_of_le (Nat.le_refl _))⟩
 obtain⟨d,hd,hm⟩:∃d,Stem W (u.drop d)∧∀j,j<d→¬Stem W (u.drop j):=by
  obtain⟨d,hd⟩:=this
  induction d using Nat.strongRecOn with
  | _ d ih=>
   by_cases c:∃j,j<d∧Stem W (u.drop j)
   ·obtain⟨j,hj,hs⟩:=c
    exact ih j hj hs
   ·exact⟨d,hd,fun j hj hs=>c ⟨j,hj,hs⟩⟩
 refine⟨u.drop d,d,?_,rfl,hd,hm⟩
 by_cases z:d≤u.length
 ·exact z
 ·exact absurd (.inl (List.drop_eq_nil_of_le (Nat.le_refl _))) (hm u.length (by omega))
theorem Zho {W:List (List Nat)}{u e f:List Nat}(h1:ZdP W u e)(h2:ZdP W u f):e=f:=by
 obtain⟨d,_,rfl,hs,hm⟩:=h1
 obtain⟨d2,_,rfl,hs2,hm2⟩:=h2
 have:d=d2:=by
  rcases Nat.lt_trichotomy d d2 with z | z | z
  ·exact absurd hs (hm2 d z)
  ·exact z
  ·exact absurd hs2 (hm d2 z)
 rw[this]
theorem ZdO {W:List (List Nat)}{u e x:List Nat}{c:Nat}(he:ZdP W (u++[c]) e):Av W (u++c::x)↔Av W (u++[c])∧Av W (e++x):=by
 have e1:u++c::x=(u++[c])++x:=by simp
 constructor
 ·intro h
  have h1:Av W (u++[c]):=h.inf (by rw[e1];exact Zim _ _)
  exact⟨h1,(Zi6 h1 he x).mp (by rw[←e1];exact h)⟩
 ·rintro⟨h1,h2⟩
  rw[e1]
  exact(Zi6 h1 he x).mpr h2
abbrev Wd:=List Nat
def cnt (o:Wd→List Wd)(P:List Wd)(s:Wd):Nat:=((o s).filter fun t=>decide (t∉P)).length
theorem ZfU {o:Wd→List Wd}{P:List Wd}{s:Wd}:cnt o P s=0↔∀t∈o s,t∈P:=by
 unfold cnt
 rw[List.length_eq_zero_iff,List.filter_eq_nil_iff]
 simp
theorem cnt_nil {o:Wd→List Wd}{s:Wd}:cnt o [] s=(o s).length:=by unfold cnt;simp
theorem ZdJ {o:Wd→List Wd}{P:List Wd}{r s:Wd}(h:r∉P):cnt o (P++[r]) s+(o s).count r=cnt o P s:=by
 unfold cnt
 induction o s with
 | nil=>simp
 | cons t ts ih=>
  rw[List.count_cons,List.filter_cons,List.filter_cons]
  by_cases e:t=r
  ·subst e
   have h1:decide (t∉P++[t])=false:=by simp
   have h2:decide (t∉P)=true:=by simpa using h
   rw[h1,h2]
   simp only[Bool.false_eq_true,if_false,if_true,beq_self_eq_true,List.length_cons]
   omega
  ·have h3:decide (t∉P++[r])=decide (t∉P):=by simp[e]
   rw[h3,if_neg (show ¬(t == r)=true by simpa using e)]
   split<;>(try simp only[List.length_cons])<;>omega
structure KI (N:List Wd)(o:Wd→List Wd)(n:Nat)(es:List Wd)(f:Wd→Nat):Prop where
 le:n≤es.length
 nd:es.Nodup
 sub:∀s∈es,s∈N
 left:∀s∈N,f s=cnt o (es.take n) s
 zero:∀s∈N,s∈es↔f s=0
 ord:∀(k:Nat) (s:Wd),es[k]?=some s→∀t∈o s,t∈es.take k
structure KJ (N:List Wd)(o:Wd→List Wd)(n:Nat)(r:Wd)(S:List Wd)(j:Nat)(es:List Wd)(f:Wd→Nat):Prop where
 at_:es[n]?=some r
 src:∀s∈N,S.count s=(o s).count r
 nd:es.Nodup
 sub:∀s∈es,s∈N
 left:∀s∈N,f s+(S.take j).count s=cnt o (es.take n) s
 zero:∀s∈N,s∈es↔f s=0
 ord:∀(k:Nat) (s:Wd),es[k]?=some s→∀t∈o s,t∈es.take k
theorem KI.start {N:List Wd}{o:Wd→List Wd}{f:Wd→Nat}(nd:N.Nodup)(hf:∀s∈N,f s=(o s).length):KI N o 0 (N.filter fun s=>decide (f s=0)) f where
 le:=Nat.zero_le _
 nd:=nd.filter _
 sub:=fun s h=>(List.mem_filter.mp h).1
 left:=fun s h=>by rw[List.take_zero,cnt_nil];exact hf s h
 zero:=fun s h=>by simp[List.mem_filter,h]
 ord:=fun k s h t ht=>by
  have hm:=List.mem_filter.mp (List.mem_of_getElem? h)
  have z:f s=0:=by simpa using hm.2
  rw[hf s hm.1,List.length_eq_zero_iff]at z
  rw[z]at ht
  cases ht
theorem Zby {es:List Wd}{n:Nat}{r:Wd}(nd:es.Nodup)(h:es[n]?=some r):r∉es.take n:=by
 intro hm
 obtain⟨k,hk,e⟩:=List.getElem_of_mem hm
 rw[List.length_take]at hk
 rw[List.getElem_take]at e
 obtain⟨hn,e2⟩:=List.getElem?_eq_some_iff.mp h
 have:=(List.nodup_iff_pairwise_ne.mp nd)
 rw[List.pairwise_iff_getElem]at this
 exact this k n (by omega) hn (by omega) (by rw[e,e2])
theorem KI.enter {N:List Wd}{o:Wd→List Wd}{n:Nat}{es S:List Wd}{f:Wd→Nat}{r:Wd}(h:KI N o n es f)(hr:es[n]?=some r)(hS:∀s∈N,S.count s=(o s).count r):KJ N o n r S 0 es f:=
 ⟨hr,hS,h.nd,h.sub,fun s hs=>by rw[List.take_zero,List.count_nil,Nat.add_zero];exact h.left s hs,h.zero,h.ord⟩
theorem ZaC {es:List Wd}{n:Nat}{r:Wd}(h:es[n]?=some r):es.take (n+1)=es.take n++[r]:=by
 rw[List.take_add_one,h];rfl
theorem KJ.leave {N:List Wd}{o:Wd→List Wd}{n:Nat}{es S:List Wd}{f:Wd→Nat}{r:Wd}(h:KJ N o n r S S.length es f):KI N o (n+1) es f where
 le:=(List.getElem?_eq_some_iff.mp h.at_).1
 nd:=h.nd
 sub:=h.sub
 left:=fun s hs=>by
  have h1:=h.left s hs
  have h2:=ZdJ (o:=o) (s:=s) (Zby h.nd h.at_)
  rw[List.take_length,h.src s hs]at h1
  rw[ZaC h.at_]
  omega
 zero:=h.zero
 ord:=h.ord
theorem Zbu {S:List Wd}{j:Nat}{s t:Wd}(h:S[j]?=some s):(S.take (j+1)).count t=(S.take j).count t+if t=s then 1 else 0:=by
 rw[ZaC h,List.count_append,List.count_singleton]
 by_cases e:t=s
 ·subst e;simp
 ·have:(s == t)=false:=by simpa using fun z=>e z.symm
  rw[this,if_neg e];rfl
theorem KJ.pos {N:List Wd}{o:Wd→List Wd}{n j:Nat}{es S:List Wd}{f:Wd→Nat}{r s:Wd}(h:KJ N o n r S j es f)(hs:S[j]?=some s)(hN:s∈N):1≤f s:=by
 have h1:=h.left s hN
 have h2:=ZdJ (o:=o) (s:=s) (Zby h.nd h.at_)
 have h3:(S.take (j+1)).count s≤S.count s:=(List.take_sublist _ _).count_le _
 rw[Zbu hs,if_pos rfl,h.src s hN]at h3
 omega
theorem KJ.next {N:List Wd}{o:Wd→List Wd}{n j:Nat}{es S:List Wd}{f:Wd→Nat}{r s:Wd}(h:KJ N o n r S j es f)(hs:S[j]?=some s)(hN:s∈N)(g:Wd→Nat)(hg:∀t,g t=if t=s then f s-1 else f t):
  (g s=0→KJ N o n r S (j+1) (es++[s]) g)∧(g s≠0→KJ N o n r S (j+1) es g):=by
 have p:=h.pos hs hN
 have gs:g s=f s-1:=by rw[hg,if_pos rfl]
 have left:∀t∈N,g t+(S.take (j+1)).count t=cnt o (es.take n) t:=fun t ht=>by
  have h1:=h.left t ht
  rw[Zbu hs,hg]
  by_cases e:t=s
  ·subst e;rw[if_pos rfl,if_pos rfl];omega
  ·rw[if_neg e,if_neg e];omega
 have hn:=(List.getElem?_eq_some_iff.mp h.at_).1
 have ns:s∉es:=fun z=>by have:=(h.zero s hN).mp z;omega
 constructor
 ·intro z
  have tk:(es++[s]).take n=es.take n:=List.take_append_of_le_length (by omega)
  refine⟨by rw[List.getElem?_append_left hn];exact h.at_,h.src,?_,?_,?_,?_,?_⟩
  ·rw[List.nodup_append]
   refine⟨h.nd,by simp,fun a ha b hb=>?_⟩
   rw[List.mem_singleton.mp hb]
   exact fun e=>ns (e▸ha)
  ·intro t ht
   rcases List.mem_append.mp ht with ht | ht
   ·exact h.sub t ht
   ·rw[List.mem_singleton.mp ht];exact hN
  ·intro t ht
   rw[tk]
   exact left t ht
  ·intro t ht
   rw[List.mem_append,List.mem_singleton]
   by_cases e:t=s
   ·subst e;simp[z]
   ·rw[hg,if_neg e]
    constructor
    ·rintro (k | k)
     ·exact(h.zero t ht).mp k
     ·exact absurd k e
    ·intro k;exact .inl ((h.zero t ht).mpr k)
  ·intro k t hk u hu
   by_cases c:k<es.length
   ·rw[List.getElem?_append_left c]at hk
    rw[List.take_append_of_le_length (by omega)]
    exact h.ord k t hk u hu
   ·have kl:=(List.getElem?_eq_some_iff.mp hk).1
    rw[List.length_append,List.length_singleton]at kl
    have ke:k=es.length:=by omega
    subst ke
    rw[List.getElem?_append_right (Nat.le_refl _),Nat.sub_self]at hk
    cases hk
    rw[List.take_left]
    have l:=left s hN
    have c1:=ZdJ (o:=o) (s:=s) (Zby h.nd h.at_)
    have c2:(S.take (j+1)).count s≤S.count s:=(List.take_sublist _ _).count_le _
    rw[h.src s hN]at c2
    have c3:cnt o (es.take n++[r]) s=0:=by omega
    rw[←ZaC h.at_]at c3
    exact List.mem_of_mem_take (ZfU.mp c3 u hu)
 ·intro z
  refine⟨h.at_,h.src,h.nd,h.sub,left,fun t ht=>?_,h.ord⟩
  by_cases e:t=s
  ·subst e
   exact⟨fun k=>absurd k ns,fun k=>absurd k z⟩
  ·rw[hg,if_neg e];exact h.zero t ht
theorem KI.all {N:List Wd}{o:Wd→List Wd}{es:List Wd}{f:Wd→Nat}{D:Nat→Wd→Prop}(h:KI N o es.length es f)(h0:∀s∈N,¬D 0 s)(hs:∀k s,s∈N→D (k+1) s→∀t∈o s,t∈N∧D k t):∀k s,s∈N→D k s→s∈es
 | 0,s,hN,hd=>absurd hd (h0 s hN)
 | k+1,s,hN,hd=>by
  rw[h.zero s hN,h.left s hN,List.take_length,ZfU]
  intro t ht
  obtain⟨a,b⟩:=hs k s hN hd t ht
  exact KI.all h h0 hs k t a b
theorem Zf4 (a g:Addr):Builtin.«list.sort» ⟨[.ref a],[(Str.ofString "key",.ref g)]⟩=(do
  let its ←Builtin.List.listItems (.ref a)
  Builtin.List.listUpdate (.ref a) fun _=>#[]
  let be ←seqEpoch a
  let hd ←newTuple its.toList
  let ks ←newList []
  holding [hd,ks] do
   rule "list.sort.key"
   for x in its do
    match ←(call (.ref g) [x]).attempt with
    | .ok k=>Builtin.List.listUpdate ks (·.push k)
    | .error e=>
     rule "list.sort.key-raised"
     let md ←Builtin.List.listItems ks
     Builtin.List.listUpdate ks fun _=>#[]
     letGo md.toList.reverse [e]
     Builtin.List.listUpdate (.ref a) fun _=>its
     throw e
   let kys ←Builtin.List.listItems ks
   let kind ←if its.size<2 then pure general' else keyKind' kys
   let ((),v) ←(if its.size<2 then pure () else sortRuns').run (SortSt.mk' kind (kys.zip its) #[] 7 none)
   Builtin.List.listUpdate ks fun _=>#[]
   letGo ((arrOf v).map (·.1)).toList (failedOf v).toList
   let tch:=(←seqEpoch a) != be
   Builtin.List.listUpdate (.ref a) fun _=>(arrOf v).map (·.2)
   if let some e:=failedOf v then rule "list.sort.comparison-raised";throw e
   if tch then rule "list.sort.modified";raiseError "ValueError" "list modified during sort"
   ret .none):=rfl
noncomputable def Kp (h g:Heap):Prop:=∀b o,h.get? b=some o→g.get? b=some o
noncomputable def KeyCall (M:Model) (A:Around) (g:Addr) (vs:List Value) (kf:Value→Int×List Nat) (s:Shared):Prop:=
 ∀(E:Value→Shared→Prop) (s':Shared) (v:Value) (Q:Value→Shared→Prop),v∈vs→Kp s.heap s'.heap→s'.gens=s.gens→s'.os=s.os →
  (∀(s2:Shared) (k:Value),Kp s'.heap s2.heap→s2.gens=s'.gens→s2.os=s'.os→IsT s2.heap k (kf v).1 (kf v).2→Q k s2)→wpAny M A (call (.ref g) [v]) Q E s'
theorem IsT.kp {h g:Heap}{v:Value}{n:Int}{c:List Nat}(k:IsT h v n c)(q:Kp h g):IsT g v n c:=by
 obtain⟨a,t,w,u,e,h1,h2,h3⟩:=k
 exact⟨a,t,w,u,e,h1,q _ _ h2,h3⟩
theorem IsT.up {h:Heap} {v:Value} {n:Int} {c:List Nat} {K:Addr} {xs:Array Value} {m:Nat} {f:Obj→Obj} (k:IsT h v n c) (hK:h.get? K=some (seqObj "list" xs m)):IsT (h.update K f) v n c:=by
 obtain⟨a,t,w,u,e,h1,h2,h3⟩:=k
 refine⟨a,t,w,u,e,h1,?_,h3⟩
 rw[(Heap.SameBut.update h K f).2 a ?_]
 ·exact h2
 ·rintro rfl
  rw[h2]at hK
  have:=congrArg Obj.cls (Option.some.inj hK)
  exact absurd (show Value.type "tuple"=Value.type "list" from this) (by decide)
noncomputable def KeysAre (h:Heap) (kf:Value→Int×List Nat) (ks vs:List Value):Prop:=ks.length=vs.length∧∀(i:Nat) (k v:Value),ks[i]?=some k→vs[i]?=some v→IsT h k (kf v).1 (kf v).2
section
variable {prog:Program}{w:World}{A:Around}{E:Value→Shared→Prop}{s:Shared}
theorem Zhk {g K a:Addr}{vs:List Value}{kf:Value→Int×List Nat}{oa:Obj}{Q:PUnit→Shared→Prop}{er:Value→Sem (ForInStep PUnit)}(hc:KeyCall (model prog w) A g vs kf s)(hK0:s.heap.get? K=none)(ha0:a≠K)(hN:vs.length≤sizeLine)
  (q:∀(s2:Shared) ks n,Kp s.heap s2.heap→s2.gens=s.gens→s2.os=s.os→s2.heap.get? K=some (seqObj "list" ks.toArray n)→KeysAre s2.heap kf ks vs→s2.heap.get? a=some oa→Q ⟨⟩ s2):
  ∀(l dn ks:List Value) (s':Shared) (n:Nat),vs=dn++l→Kp s.heap s'.heap→s'.gens=s.gens→s'.os=s.os→s'.heap.get? K=some (seqObj "list" ks.toArray n)→KeysAre s'.heap kf ks dn→s'.heap.get? a=some oa →
   wpAny (model prog w) A (forIn l PUnit.unit fun x _=>do
    match ←(call (.ref g) [x]).attempt with
    | .ok k=>do
     Builtin.List.listUpdate (.ref K) (·.push k)
     pure (ForInStep.yield PUnit.unit)
    | .error e=>er e) Q E s'
 | [],dn,ks,s',n,hv,h1,h2,h3,h4,h5,h6=>by
  rw[List.append_nil]at hv
  subst hv
  rw[List.forIn_nil]
  exact wpAny_pure (q s' ks n h1 h2 h3 h4 h5 h6)
 | x::l,dn,ks,s',n,hv,h1,h2,h3,h4,h5,h6=>by
  rw[List.forIn_cons]
  refine wpAny_bind (wpAny_bind (wpAny_attempt (hc _ s' x _ (by rw[hv];simp) h1 h2 h3 fun s2 k k1 k2 k3 k4=>?_)))
  have hlen:ks.length<vs.length:=by rw[h5.1,hv];simp
  have hK2:=k1 _ _ h4
  refine wpAny_bind (listUpdate_at hK2 rfl (wpAny_pure ?_) (hsz:=by rw[List.size_toArray];omega) (hsz2:=by rw[Array.size_push,List.size_toArray];omega))
  dsimp only
  have sb:=Heap.SameBut.update s2.heap K (Obj.mapSeq fun z=>z.push k)
  refine Zhk hc hK0 ha0 hN q l (dn++[x]) (ks++[k]) _ _ (by rw[hv];simp) ?_ (k2.trans h2) (k3.trans h3) (by
   have:=get?_update_seq hK2 (fun z=>z.push k)
   rw[List.push_toArray]at this
   exact this) ?_ ?_
  ·intro b o hb
   refine(sb.2 b ?_).trans (k1 b o (h1 b o hb))
   rintro rfl
   rw[hK0]at hb;cases hb
  ·refine⟨by simp[h5.1],fun i k' v' e1 e2=>?_⟩
   by_cases hi:i<ks.length
   ·rw[List.getElem?_append_left hi]at e1
    rw[List.getElem?_append_left (by rw[←h5.1];exact hi)]at e2
    exact((h5.2 i k' v' e1 e2).kp k1).up hK2
   ·have hi2:i=ks.length:=by
     have:=(List.getElem?_eq_some_iff.mp e1).1
     simp at this;omega
    subst hi2
    rw[List.getElem?_append_right (Nat.le_refl _),Nat.sub_self]at e1
    rw[h5.1,List.getElem?_append_right (Nat.le_refl _),Nat.sub_self]at e2
    cases e1;cases e2
    exact k4.up hK2
  ·exact(sb.2 a ha0).trans (k1 a oa h6)
end
section
variable {prog:Program}{w:World}{A:Around}{E:Value→Shared→Prop}{s s0:Shared}
theorem ZeG {h:Heap}{kf:Value→Int×List Nat}{ks vs:List Value}(hk:KeysAre h kf ks vs){p:Keyed}(hp:p∈ks.zip vs):keyT h p.1=kf p.2∧∃n c,IsT h p.1 n c:=by
 obtain⟨i,hi,rfl⟩:=List.getElem_of_mem hp
 rw[List.length_zip]at hi
 have h1:i<ks.length:=by omega
 have h2:i<vs.length:=by omega
 have:=hk.2 i ks[i] vs[i] (List.getElem?_eq_getElem h1) (List.getElem?_eq_getElem h2)
 rw[List.getElem_zip]
 exact⟨this.key,_,_,this⟩
theorem Zf3 {a g:Addr}{vs:List Value}{kf:Value→Int×List Nat}{n:Nat}{P:Fin→Shared→Prop}(hc:KeyCall (model prog w) A g vs kf s0)(hb:Kp s0.heap s.heap)(hg:s.gens=s0.gens)(hos:s.os=s0.os)(ha0:s0.heap.get? a=none)
  (ho:s.heap.get? a=some (seqObj "list" vs.toArray n)) (hN:vs.length≤sizeLine)
  (h:∀(s':Shared) (us:List Value) (e:Nat),Kp s0.heap s'.heap→s'.gens=s0.gens→s'.os=s0.os→s'.heap.get? a=some (seqObj "list" us.toArray e)→us.Perm vs→us.Pairwise (fun x y=>ltP (kf y) (kf x)=false)→P (.done (.ret .none)) s'):
  wpAny (model prog w) A (Builtin.«list.sort» ⟨[.ref a],[(Str.ofString "key",.ref g)]⟩) P E s:=by
 have hlt:a<s.heap.objs.size:=Heap.lt_size ho
 have up:=get?_update_seq ho (fun _=>#[])
 generalize hep:(if (#[]:Array Value).size == vs.toArray.size then n else n+1)=ep at up
 obtain⟨h1,hh1⟩:∃h1,h1=s.heap.update a (Obj.mapSeq fun _=>#[]):=⟨_,rfl⟩
 have k1:Kp s0.heap h1:=by
  intro b o q
  rw[hh1,(Heap.SameBut.update s.heap a _).2 b ?_]
  ·exact hb b o q
  ·rintro rfl;rw[ha0]at q;cases q
 rw[←hh1]at up
 obtain⟨K,hK⟩:∃K,K=(h1.push (seqObj "tuple" vs.toArray 0)).objs.size:=⟨_,rfl⟩
 obtain⟨h3,hh3⟩:∃h3,h3=(h1.push (seqObj "tuple" vs.toArray 0)).push (seqObj "list" #[] 0):=⟨_,rfl⟩
 have k3:Kp h1 h3:=fun b o q=>by rw[hh3];exact Heap.get?_push_of_some _ (Heap.get?_push_of_some _ q)
 have oK:h3.get? K=some (seqObj "list" #[] 0):=by rw[hh3,hK];exact Heap.get?_push_size _ rfl
 have nK:s0.heap.get? K=none:=by
  cases z:s0.heap.get? K with
  | none=>rfl
  | some o=>
   have:=Heap.lt_size (k1 _ _ z)
   rw[hK,size_push']at this
   exact absurd this (Nat.not_lt.mpr (Nat.le_succ _))
 have aK:a≠K:=by
  rintro rfl
  have h8:=Heap.lt_size up
  rw[hK,size_push']at h8
  exact absurd h8 (Nat.not_lt.mpr (Nat.le_succ _))
 subst hK
 rw[Zf4]
 refine wpAny_bind (listItems_at ho rfl (wpAny_bind (listUpdate_at ho rfl ?_ (hsz:=by rw[List.size_toArray];exact hN))))
 rw[←hh1]
 refine wpAny_bind (seqEpoch_at up rfl (wpAny_bind (wpAny_newTuple (wpAny_bind (wpAny_newList (wpAny_holding ?_))))))
 refine wpAny_bind (wpAny_rule ?_)
 rw[List.forIn_toArray]
 show wpAny _ _ _ _ _ { s with heap:=(h1.push (seqObj "tuple" vs.toArray 0)).push (seqObj "list" #[] 0) }
 rw[←hh3]
 refine wpAny_bind (Zhk hc nK aK hN ?_ vs [] [] { s with heap:=h3 } 0 rfl (fun b o q=>k3 b o (k1 b o q)) hg hos oK ⟨rfl,fun i k v e _=>by simp at e⟩ (k3 a _ up))
 intro s2 ks m j1 j2 j3 j4 j5 j6
 dsimp only
 refine wpAny_bind (listItems_at j4 rfl ?_)
 have fin:∀v:SortSt,failedOf v=none→((arrOf v).map (·.2)).toList.Perm vs→((arrOf v).map (·.2)).toList.Pairwise (fun x y=>ltP (kf y) (kf x)=false) →
   wpAny (model prog w) A (do
    Builtin.List.listUpdate (.ref (h1.push (seqObj "tuple" vs.toArray 0)).objs.size) fun _=>#[]
    letGo ((arrOf v).map (·.1)).toList (failedOf v).toList
    let tch:=(←seqEpoch a) != ep
    Builtin.List.listUpdate (.ref a) fun _=>(arrOf v).map (·.2)
    if let some e:=failedOf v then rule "list.sort.comparison-raised";throw e
    if tch then rule "list.sort.modified";raiseError "ValueError" "list modified during sort"
    ret .none) P E s2:=by
  intro v f1 f2 f3
  have hl:=j5.1
  refine wpAny_bind (listUpdate_at j4 rfl (wpAny_bind (wpAny_letGo ?_)) (hsz:=by rw[List.size_toArray];omega))
  have sb:=Heap.SameBut.update s2.heap (h1.push (seqObj "tuple" vs.toArray 0)).objs.size (Obj.mapSeq fun _=>#[])
  have a1:(s2.heap.update (h1.push (seqObj "tuple" vs.toArray 0)).objs.size (Obj.mapSeq fun _=>#[])).get? a=some (seqObj "list" #[] ep):=(sb.2 a aK).trans j6
  refine wpAny_bind (seqEpoch_at a1 rfl (wpAny_bind (listUpdate_at a1 rfl ?_ (hsz2:=by
   have:=f2.length_eq
   rw[Array.length_toList]at this
   omega))))
  rw[f1,bne_self_eq_false]
  obtain⟨out,hout⟩:∃out,out=(arrOf v).map (·.2):=⟨_,rfl⟩
  rw[←hout]at f2 f3 ⊢
  have a2:=get?_update_seq a1 (fun _=>out)
  generalize (if out.size == (#[]:Array Value).size then ep else ep+1)=e5 at a2
  have e3:out.toList.toArray=out:=Array.toArray_toList
  refine wpAny_pure (h _ out.toList e5 ?_ j2 j3 (by rw[e3];exact a2) f2 f3)
  intro b o q
  refine((Heap.SameBut.update _ a _).2 b ?_).trans ((sb.2 b ?_).trans (j1 b o q))
  ·rintro rfl;rw[ha0]at q;cases q
  ·rintro rfl;rw[nK]at q;cases q
 have zs:(ks.toArray.zip vs.toArray)=(ks.zip vs).toArray:=by simp
 have zm:((ks.zip vs).map (·.2))=vs:=List.map_snd_zip (by rw[j5.1];exact Nat.le_refl _)
 by_cases h2:vs.toArray.size<2
 ·rw[if_pos h2,if_pos h2]
  refine wpAny_bind (wpAny_pure ?_)
  rw[StateT.run_pure]
  refine wpAny_bind (wpAny_pure ?_)
  refine fin (SortSt.mk' general' (ks.toArray.zip vs.toArray) #[] 7 none) rfl ?_ ?_
  ·show ((ks.toArray.zip vs.toArray).map (·.2)).toList.Perm vs
   rw[zs,Array.toList_map,zm]
  ·show ((ks.toArray.zip vs.toArray).map (·.2)).toList.Pairwise _
   rw[zs,Array.toList_map,zm]
   match vs,h2 with
   | [],_=>exact List.Pairwise.nil
   | [x],_=>exact List.pairwise_singleton _ _
   | _::_::_,h2=>simp at h2;omega
 ·rw[if_neg h2,if_neg h2]
  have hne:ks≠[]:=by
   intro e
   have:=j5.1
   rw[e]at this
   rw[List.size_toArray,←this]at h2
   simp at h2
  refine wpAny_bind (Ze3 (fun v hv=>?_) hne ?_)
  ·obtain⟨i,hi,rfl⟩:=List.getElem_of_mem hv
   have h2:i<vs.length:=by rw[←j5.1];exact hi
   exact⟨_,_,j5.2 i ks[i] vs[i] (List.getElem?_eq_getElem hi) (List.getElem?_eq_getElem h2)⟩
  ·refine wpAny_bind (wpAny_mono (ZgS (a0:=ks.zip vs) (st:=SortSt.mk' (tuples' true) (ks.toArray.zip vs.toArray) #[] 7 none) (Q:=fun _ v=>(arrOf v).toList.Perm (ks.zip vs)∧(arrOf v).toList.Pairwise (Le (ltT s2.heap))∧failedOf v=none)
    (ZjJ _) Zic (fun u hu=>(ZeG j5 hu).2) rfl rfl rfl (by show (ks.toArray.zip vs.toArray).toList=_;rw[zs]) fun v p1 p2 p3=>⟨p1,p2,p3⟩) ?_ fun _ _ e=>e)
   rintro⟨⟨⟩,v⟩ s3 ⟨rfl,p1,p2,p3⟩
   refine fin v p3 ?_ ?_
   ·rw[Array.toList_map]
    have:=p1.map (fun p:Keyed=>p.2)
    rw[zm]at this
    exact this
   ·rw[Array.toList_map,List.pairwise_map]
    refine p2.imp_of_mem fun {x y} hx hy e=>?_
    have e1:=(ZeG j5 (p1.mem_iff.mp hx)).1
    have e2:=(ZeG j5 (p1.mem_iff.mp hy)).1
    have e':ltP (keyT s3.heap y.1) (keyT s3.heap x.1)=false:=e
    rw[e1,e2]at e'
    exact e'
end
def kfT:Value→Int×List Nat
 | .str x _=>((x.length:Nat),x.cps.toList)
 | _=>(0,[])
abbrev ZcB (x:Str)(p1 p2 p3 p4 p5:Pos)(k:Nat):Expr:=.Tuple [.Call (.Name "len" p1) [.Name x p2] [] p3,.Name x p4] k p5
structure LamSc (scope:Scope)(x:Str):Prop where
 kind:scope.kind=.function
 co:scope.isCoroutine=false
 gen:scope.isGenerator=false
 loc:scope.names.lookup x=some .local
 glb:scope.names.lookup ("len":Str)=some .globalImplicit
 nodbg:(x == ("__debug__":Str))=false
section
variable {prog:Program}{w:World}{A:Around}{s:Shared}
theorem ZhJ (f:Str→Option NameKind){x:Str}{v:Value}(h:f x=some .local):bindL f [(x,v)] (fun _=>none) x=some v:=by
 unfold bindL bindL
 rw[if_pos h,if_pos rfl]
theorem ZjO {g:Addr}{o:Obj}{name qual x:Str}{params:Arguments}{scope:Scope}{pm cv ctv:Value}{mg mb:Str→Option Value}{vs:List Value}{p1 p2 p3 p4 p5:Pos}{k:Nat}
  (ho:s.heap.get? g=some o) (hod:o.data=.func (PySem.W.kla_fn name qual params (ZcB x p1 p2 p3 p4 p5 k) scope [] pm cv ctv)) (hcd:s.heap.CodeRec cv qual) (S:LamSc scope x)
  (hb:∀(s:Shared) (u:Value),BindsTo s (PySem.W.kla_fn name qual params (ZcB x p1 p2 p3 p4 p5 k) scope [] pm cv ctv) ⟨[u],[]⟩ [(x,u)]) (hroom:A.depth<recursionLimit) (hlim:s.heap.NoLimit)
  (hg:s.heap.Ns mainGlobals mg) (hgl:mg "len"=none) (hbn:s.heap.Ns builtinsNs mb) (hbb:mb "len"=bootBuiltins "len") (hv:∀v∈vs,∃y t,v=.str y t∧y.length≤sizeLine):KeyCall (model prog w) A g vs kfT s:=by
 intro E s' v Q hvm hk hgen hos q
 obtain⟨y,t,rfl,hy⟩:=hv v hvm
 have hs:sizeLine=16777216:=sizeLine_eq
 refine wpAny_call (PySem.W.kla_callFunE hroom (hk _ _ ho) hod S.co S.gen rfl (let ⟨c,oc,ws,tq,e1,e2,r⟩:=hcd;⟨c,oc,ws,tq,e1,hk _ _ e2,r⟩) (hb _ _ _ _ _ _ ?_))
 refine wpAny_newFunctionEnv_cells S.kind (fun z hz=>.inl (by rw[List.mem_singleton.mp hz];exact S.loc)) fun env he s1 X=>?_
 refine⟨(hlim.keeps hk).keeps X.toInCall.keep,PySem.W.kla_codeExpr ?_⟩
 subst he
 obtain⟨h1,tk1,e1⟩:=X.toInCall.same
 have kp1:Kp s'.heap s1.heap:=X.toInCall.keep
 have lnm:∀(pp:Pos) (B:Around) (E2:Value→Shared→Prop) (s2:Shared) (Q2:Value→Shared→Prop),Kp s1.heap s2.heap→Q2 (.str y t) s2→wpAny (model prog w) B (eval (.Name x pp) (newEnv scope s'.heap.objs.size mainGlobals (cellsFrom (s'.heap.objs.size+1) scope.names []) (qual++".<locals>.") (some g) cv none builtinsNs)) Q2 E2 s2:=fun pp B E2 s2 Q2 k2 q2=>
  wpAny_Name (wpAny_loadName_local S.kind S.loc (X.toInCall.ns.keeps k2) (by
   exact ZhJ _ S.loc) q2) S.nodbg
 refine wpAny_Tuple_spliced ?_
 show wpAny _ _ (spliced ((false,eval (.Call (.Name "len" p1) [.Name x p2] [] p3) _)::backTo p5 (starEach [.Name x p4] _))) _ _ s1
 refine Calls.spliced_cons ?_
 refine wpAny_Call_Name_kw (Calls.Name_function_global S.kind S.glb (Calls.loadGlobal_builtin (v:=.builtin "len") (show s1.heap.Ns mainGlobals mg from(hg.keeps hk).keeps kp1) hgl (show s1.heap.Ns builtinsNs mb from(hbn.keeps hk).keeps kp1) (hbb.trans rfl) ?_) (by decide))
 refine PyProof.Rows.callWith_builtin1 ?_ rfl rfl
 show wpAny _ _ (spliced ((false,eval (.Name x p2) _)::backTo p3 (starEach [] _))) _ _ s1
 refine Calls.spliced_cons (lnm p2 _ _ _ _ (fun _ _ e=>e) (Calls.spliced_nil ?_))
 refine len_str (by omega) ?_
 show wpAny _ _ (spliced ((false,eval (.Name x p4) _)::backTo p5 (starEach [] _))) _ _ _
 refine Calls.spliced_cons (lnm p4 _ _ _ _ (fun _ _ e=>e) (Calls.spliced_nil ?_))
 refine⟨by rw[hs];show 2≤16777216;decide,?_⟩
 rw[e1]
 refine q _ _ (fun b o e=>Heap.get?_push_of_some _ (by have:=kp1 b o e;rw[e1]at this;exact this)) rfl rfl ⟨_,_,_,_,_,rfl,Heap.get?_push_size _ rfl,rfl⟩
end
theorem ZcP (a v:Value):argsOk "sorted" ⟨[a],[(Str.ofString "key",v)]⟩:=by unfold argsOk;kernel_rfl
theorem Zb2 (a v:Value):argsOk "list.sort" ⟨[a],[(Str.ofString "key",v)]⟩:=by unfold argsOk;kernel_rfl
section
variable {prog:Program}{w:World}{A:Around}{E:Value→Shared→Prop}{s:Shared}
theorem ZeP {a g:Addr} {its:List Value} {n:Nat} {kf:Value→Int×List Nat} {Q:Value→Shared→Prop} (eo:s.heap.get? a=some (seqObj "list" its.toArray n)) (hc:KeyCall (model prog w) A.in1.in1 g its kf s) (hN:its.length≤sizeLine)
  (h:∀(s':Shared) (r:Addr) (us:List Value) (e:Nat),s.heap.get? r=none→Kp s.heap s'.heap→s'.gens=s.gens→s'.os=s.os→s'.heap.get? r=some (seqObj "list" us.toArray e)→us.Perm its→us.Pairwise (fun x y=>ltP (kf y) (kf x)=false)→Q (.ref r) s'):
  wpAny (model prog w) A (call (.builtin "sorted") [.ref a] [(Str.ofString "key",.ref g)]) Q E s:=by
 refine call_function_entry_kw kind_sorted plain_sorted entry_sorted (ZcP _ _) ?_
 unfold Builtin.«sorted»
 refine wpAny_bind (m:=checkCount "sorted" 1 1 _) (wpAny_pure ?_)
 refine wpAny_bind (collect_list (PySem.IsL.isList eo) ?_ hN)
 have sb:=Heap.SameBut.update (s.heap.push (seqObj "list" #[] 0)) s.heap.objs.size (Obj.mapSeq (·++its.toArray))
 have k1:Kp s.heap ((s.heap.push (seqObj "list" #[] 0)).update s.heap.objs.size (Obj.mapSeq (·++its.toArray))):=fun b o e=>(sb.2 b (Nat.ne_of_lt (Heap.lt_size e))).trans (Heap.get?_push_of_some _ e)
 generalize ((s.heap.push (seqObj "list" #[] 0)).update s.heap.objs.size (Obj.mapSeq (·++its.toArray)))=g1 at k1 ⊢
 have nw:s.heap.get? g1.objs.size=none:=by
  cases z:s.heap.get? g1.objs.size with
  | none=>rfl
  | some o=>exact absurd (Heap.lt_size (k1 _ _ z)) (Nat.lt_irrefl _)
 refine wpAny_bind (wpAny_newList ?_ hN)
 have hoL:(g1.push (seqObj "list" its.toArray 0)).get? g1.objs.size=some (seqObj "list" its.toArray 0):=Heap.get?_push_size _ rfl
 refine wpAny_bind (wpAny_holding (wpAny_call_entry_kw slot_list_sort ⟨_,hoL,rfl⟩ entry_list_sort (Zf3 (s0:=s) hc (fun b o e=>Heap.get?_push_of_some _ (k1 b o e)) rfl rfl nw hoL hN fun s' us e k2 e1 e2 e3 e4 e5=>⟨_,rfl,?_⟩) (Zb2 _ _)))
 exact wpAny_pure ⟨_,rfl,h s' _ us e nw k2 e1 e2 e3 e4 e5⟩
end
end L2
namespace L2
open PySem PySem.Spec PyProof.Rows PySem.W
def Znl:HO→Bool
 | .tbl _=>true
 | _=>false
def SameL (H H':Hp):Prop:=∀b o,H b=some o→Znl o=false→H' b=some o
theorem SameL.refl (H:Hp):SameL H H:=fun _ _ e _=>e
theorem SameL.trans {H H1 H2:Hp}(a:SameL H H1)(b:SameL H1 H2):SameL H H2:=fun c o e n=>b c o (a c o e n) n
theorem Same.l {H H':Hp}(s:Same H H'):SameL H H':=fun b o e _=>s b o e
def Zfi (c:Addr)(q:Str):HO:=.ext fun h=>h.CodeRec (.ref c) q
theorem Ziz {P:Program}{w:World}{H:Hp}{h:Heap}{c:Addr}{q:Str}(x:h.CodeRec (.ref c) q):ObjOk P w H h c (Zfi c q):=by
 obtain⟨c',o,vs,t,e,e1,r⟩:=id x
 cases e
 refine⟨x,⟨o,e1⟩,fun h1 h2 x1 k=>?_⟩
 obtain⟨c',o,vs,t,e,e1,r⟩:=x1
 cases e
 exact⟨c,o,vs,t,rfl,k _ e1,r⟩
def TblOk (H:Hp)(P:Addr)(pos:Pos)(q:Str):Prop:=∃ps,H P=some (.tbl ps)∧TriplesOk ps.toList∧(codeAmong pos ps.toList=none∨∃c,codeAmong pos ps.toList=some (.ref c)∧H c=some (Zfi c q))
theorem TblOk.same {H H':Hp}{P:Addr}{pos:Pos}{q:Str}(t:TblOk H P pos q)(s:Same H H'):TblOk H' P pos q:=by
 obtain⟨ps,e,tr,h⟩:=t
 exact⟨ps,s _ _ e,tr,h.imp id fun ⟨c,e1,e2⟩=>⟨c,e1,s _ _ e2⟩⟩
theorem tbl_new {P:Addr}{pos:Pos}{q:Str}{H:Hp}(h:H P=some (.tbl #[])):TblOk H P pos q:=⟨#[],h,trivial,.inl rfl⟩
theorem ZcL {pos pos':Pos}{c:Value}(hne:pos'.line≠pos.line∨pos'.col≠pos.col)(l:List Value)(h:TriplesOk l):codeAmong pos' (l++[rawInt pos.line,rawInt pos.col,c])=codeAmong pos' l:=by
 fun_induction TriplesOk l with
 | case1=>
  simp only[List.nil_append,codeAmong,rawInt]
  rw[if_neg]
  intro z
  simp only[Bool.and_eq_true,beq_iff_eq]at z
  rcases hne with n | n
  ·exact n (by have:=z.1;omega)
  ·exact n (by have:=z.2;omega)
 | case2 a t b u x rest ih=>
  simp only[List.cons_append,codeAmong]
  rw[ih h]
 | case3 l h1 h2=>exact h.elim
def SameT (pos:Pos)(H H':Hp):Prop:=SameL H H'∧∀(P':Addr) (pos':Pos) (q':Str),(pos'.line≠pos.line∨pos'.col≠pos.col)→TblOk H P' pos' q'→TblOk H' P' pos' q'
theorem SameT.then {pos:Pos}{H H1 H2:Hp}(s:SameT pos H H1)(t:Same H1 H2):SameT pos H H2:=⟨s.1.trans t.l,fun P' p' q' n T=>(s.2 P' p' q' n T).same t⟩
structure LamEnv (base:Heap)(mg:Str→Option Value)(c P:Addr):Prop where
 hd:CodeHd base c P
 bm:base.BuiltinsAt mg P
section
variable {X:Cx}{pins:List (Addr×Obj)}{σ:St}{H:Hp}{s:Shared}
theorem Inv.table {P c':Addr}{ps more:Array Value}{q:Str}{h':Heap}{t':Nat}(I:Inv X pins σ H s)(hP:H P=some (.tbl ps))(hx:Heap.ExtBut P s.heap h')(hc:s.heap.objs.size≤c')(hr:h'.CodeRec (.ref c') q)(ht:h'.get? P=some (tabObj (ps++more))):
  Inv X pins σ (upd (upd H P (.tbl (ps++more))) c' (Zfi c' q)) { s with heap:=h',toks:=t' }:=by
 have fc:H c'=none:=I.hok.fresh hc
 have nPc:P≠c':=Zaf hP fc
 have nt:∀ {b u},H b=some u→(∀ps,u≠.tbl ps)→b≠P:=fun e n z=>by rw[z,hP]at e;exact n _ (Option.some.inj e).symm
 have nc:∀ {b u},H b=some u→b≠c':=fun e=>Zaf e fc
 have hz:∀ {b o},s.heap.get? b=some o→b≠c':=fun e z=>absurd (Heap.lt_size e) (by rw[z];exact Nat.not_lt.mpr hc)
 have nn:∀ {b},H b=none→b≠P:=fun e z=>by rw[z,hP]at e;cases e
 refine I.call' (s':={ s with heap:=h',toks:=t' }) (ch:=[]) rfl ⟨fun b o e n _ _=>hx b o (nn n) e,fun b o e n _ _=>⟨o.slots,hx b o (nn n) e⟩,fun b o e n _=>?_,fun b o e _=>?_,fun b xs e=>?_,fun b o u e=>?_,fun b qs e=>?_⟩ (fun b u e=>?_) I.bare (fun b z=>by cases z)
 ·rw[Zab (hz e),Zab (nn n)];exact n
 ·by_cases z:b=P
  ·exact⟨_,by rw[z];exact ht⟩
  ·exact⟨o,hx b o z e⟩
 ·rw[Zab (nc e),Zab (nt e fun _ z=>by cases z)];exact e
 ·rw[Zab (nc e),Zab (nt e fun _ z=>by cases z)];exact e
 ·by_cases z:b=P
  ·subst z
   rw[hP]at e;cases e
   exact⟨more,by rw[Zab nPc,Zad]⟩
  ·exact⟨#[],by rw[Zab (nc e),Zab z,e];simp⟩
 ·by_cases z1:b=c'
  ·subst z1
   rw[Zad]at e;cases e
   exact Ziz hr
  ·rw[Zab z1]at e
   by_cases z2:b=P
   ·subst z2
    rw[Zad]at e;cases e
    exact ht
   ·rw[Zab z2]at e
    refine(I.hok b u e).stay (fun d v hd k=>?_) (fun d k=>?_) fun d xs k=>?_
    ·refine hx d v ?_ k
     rcases hd with rfl | hd
     ·exact z2
     ·exact nt hd fun _ z=>by cases z
    ·rw[Zab (nc k),Zab (nt k fun _ z=>by cases z)];exact k
    ·rw[Zab (nc k),Zab (nt k fun _ z=>by cases z)];exact k
theorem Zhg {Q:Value→Shared→Prop}{E:Value→Shared→Prop}{c P:Addr}{pos:Pos}{params:Arguments}{body:Expr}{scope:Scope}{q:Str}{clos:List (Str×Addr)}(I:Inv X pins σ H s)(L:LamEnv X.base X.mg c P)(hcode:X.env.code=.ref c)(hcl:closureFor scope X.env=pure clos)(hdef:defaultsOf params X.env=([],[]))
  (hq:X.env.qual++"<lambda>"=q) (T:TblOk H P pos q)
  (h:∀(H1:Hp) (h':Heap) (tk:Nat) (c':Addr) (ctv:Value),SameT pos H H1→TblOk H1 P pos q→(∀b,H1 b=none→H b=none)→Inv X pins σ H1 { s with heap:=h',toks:=tk }→h'.CodeRec (.ref c') q→H1 c'=some (Zfi c' q)→Q (.ref h'.objs.size) { s with heap:=h'.push (kla_obj "<lambda>" q params body scope clos ((X.mg "__name__").getD .none) c' ctv),toks:=tk }):
  wpAny (model X.prog X.w) X.A (eval (.Lambda params body scope pos) X.env) Q E s:=by
 obtain⟨ps,hP,tr,hc⟩:=T
 have gP:s.heap.get? P=some (tabObj ps):=I.hok P _ hP
 have C:CodeHd s.heap c P:=L.hd.keeps I.bk
 have hg:s.heap.Ns mainGlobals X.mg:=I.mod.glob.keeps I.bk
 have hgP:mainGlobals≠P:=fun z=>by
  obtain⟨o,es,ep,e,hd,_⟩:=hg
  rw[z,gP]at e;cases e;cases hd
 have hbm:s.heap.BuiltinsAt X.mg P:=let ⟨bm,o,a1,a2,a3,a4,a5,r⟩:=L.bm;⟨bm,o,a1,a2,a3,a4,I.bk _ _ a5,r⟩
 refine kla_eval hdef ?_
 rw[hq]
 rcases hc with hn | ⟨c',hf,hc'⟩
 ·refine kla_makeFunction hcl I.ok.glob hg hcode C gP tr hn hgP hbm fun c' ctv h' tk hx hge hlt hrec htab=>?_
  have fc:H c'=none:=I.hok.fresh hge
  have J:=I.table (t':=tk) hP hx hge hrec htab
  have nPc:P≠c':=Zaf hP fc
  have el:(ps++#[rawInt pos.line,rawInt pos.col,Value.ref c']).toList=ps.toList++[rawInt pos.line,rawInt pos.col,.ref c']:=by simp
  refine h _ _ _ c' ctv ⟨fun b o e n=>?_,fun P' pos' q' hne T'=>?_⟩ ⟨_,by rw[Zab nPc,Zad],by rw[el];exact TriplesOk_snoc _ _ _ _ tr,.inr ⟨c',by rw[el];exact codeAmong_snoc _ tr hn,Zad⟩⟩ (fun b e=>?_) J hrec Zad
  ·rw[Zab (Zaf e fc),Zab (fun z=>by rw[z,hP]at e;cases e;cases n)];exact e
  ·obtain⟨ps',e1,t1,h1⟩:=T'
   have keep:∀d,H d=some (Zfi d q')→upd (upd H P (.tbl (ps++#[rawInt pos.line,rawInt pos.col,Value.ref c']))) c' (Zfi c' q) d=some (Zfi d q'):=fun d e=>by
    rw[Zab (Zaf e fc),Zab (fun z=>by rw[z,hP]at e;cases e)];exact e
   by_cases z:P'=P
   ·subst z
    rw[hP]at e1;cases e1
    refine⟨_,by rw[Zab nPc,Zad],by rw[el];exact TriplesOk_snoc _ _ _ _ tr,?_⟩
    rw[el,ZcL hne _ tr]
    exact h1.imp id fun ⟨d,f1,f2⟩=>⟨d,f1,keep d f2⟩
   ·exact⟨ps',by rw[Zab (Zaf e1 fc),Zab z];exact e1,t1,h1.imp id fun ⟨d,f1,f2⟩=>⟨d,f1,keep d f2⟩⟩
  ·by_cases z1:b=c'
   ·rw[z1];exact fc
   ·rw[Zab z1]at e
    by_cases z2:b=P
    ·rw[z2,Zad]at e;cases e
    ·rw[Zab z2]at e;exact e
 ·refine kla_makeFunctionHit hcl I.ok.glob hg hcode C gP tr hf hbm fun ctv h' tk hk hsz=>?_
  have hrec:s.heap.CodeRec (.ref c') q:=(I.hok c' _ hc').1
  exact h H _ _ c' ctv ⟨SameL.refl _,fun _ _ _ _ T=>T⟩ ⟨ps,hP,tr,.inr ⟨c',hf,hc'⟩⟩ (fun b e=>e) (I.kept (t':=tk) hk) (hrec.keeps hk) hc'
theorem Zhh {Q:Value→Shared→Prop}{E:Value→Shared→Prop}{c P:Addr}{pos:Pos}{params:Arguments}{body:Expr}{scope:Scope}{q:Str}(I:Inv X pins σ H s)(L:LamEnv X.base X.mg c P)(hcode:X.env.code=.ref c)(hcl:closureFor scope X.env=pure [])(hdef:defaultsOf params X.env=([],[]))
  (hq:X.env.qual++"<lambda>"=q) (T:TblOk H P pos q)
  (h:∀(g:Addr) (H1:Hp) (s1:Shared) (cv ctv pm:Value),SameT pos H H1→TblOk H1 P pos q→(∀b,H1 b=none→H b=none)→Inv X pins σ H1 s1→s1.heap.get? g=some { cls:=.type "function",data:=.func (kla_fn "<lambda>" q params body scope [] pm cv ctv) }→s1.heap.CodeRec cv q→Q (.ref g) s1):
  wpAny (model X.prog X.w) X.A (eval (.Lambda params body scope pos) X.env) Q E s:=
 Zhg I L hcode hcl hdef hq T fun H1 h' tk c' ctv st t1 fr J hrec _=>h _ H1 _ (.ref c') ctv _ st t1 fr (J.kept (t':=tk) fun b o e=>Heap.get?_push_of_some _ e) (Heap.get?_push_size _ rfl) (hrec.push _)
end
theorem Zgv:bootBuiltins "sorted"=some (.builtin "sorted"):=rfl
def txV:Value→List Nat
 | .str x _=>x.cps.toList
 | _=>[]
theorem Zgz:∀ {ws:List (List Nat)} {us:List Value},Vals (ws.map tx) us→ws=us.map txV∧(∀v∈us,∃y t,v=.str y t∧y.length=(txV v).length)
 | [],_,.nil=>⟨rfl,fun v hv=>by cases hv⟩
 | w::ws,_,.cons ⟨t,e⟩ r=>by
  obtain⟨h1,h2⟩:=Zgz (ws:=ws) r
  subst e
  refine⟨by rw[List.map_cons,←h1];simp[txV],fun v hv=>?_⟩
  rcases List.mem_cons.mp hv with rfl | hv
  ·exact⟨_,t,rfl,by simp[txV,Str.length]⟩
  ·exact h2 v hv
theorem ZcZ:∀(us:List Value),(∀v∈us,∃y t,v=.str y t)→Vals ((us.map txV).map tx) us
 | [],_=>.nil
 | v::us,h=>by
  obtain⟨y,t,rfl⟩:=h v List.mem_cons_self
  exact .cons ⟨t,by simp[txV]⟩ (ZcZ us fun u hu=>h u (List.mem_cons_of_mem _ hu))
def ZiG (P:Addr)(lpos:Pos)(q:Str)(ta:TA):TE:=fun σ H Q=>ta σ H fun vs H1=>∃(a:Addr) (ws:List (List Nat)),vs=[.ref a]∧H1 a=some (.lst (ws.map tx))∧(∀w∈ws,w.length≤sizeLine)∧TblOk H1 P lpos q ∧
 ∀(ws':List (List Nat)) (r:Addr) (H2:Hp),ws'.Perm ws→ws'.Pairwise (fun a b=>¬BefW b a)→SameT lpos H1 H2→TblOk H2 P lpos q→H1 r=none→H2 r=some (.lst (ws'.map tx))→Q (.ref r) H2
theorem ZjK {a b:List Nat}:ltP ((b.length:Nat),b) ((a.length:Nat),a)=false↔¬BefW b a:=by
 rw[Bool.eq_false_iff,Ne,Ze1]
 unfold BefW
 dsimp only
 have e1:((b.length:Int)<(a.length:Int))↔b.length<a.length:=by omega
 have e2:((b.length:Int)=(a.length:Int))↔b.length=a.length:=by omega
 rw[e1,e2]
section
variable {X:Cx}{e:Expr}{ta:TA}{p pos kpos lpos p1 p2 p3 p4 p5:Pos}{k kk:Nat}{c P:Addr}{params:Arguments}{scope:Scope}{x q:Str}
theorem Zh2 (hr:Room k X.A) (L:LamEnv X.base X.mg c P) (hcode:X.env.code=.ref c) (hg:Gl X "sorted") (hm:X.mg "sorted"=none) (hlen:X.mg "len"=none) (ha:PA X [e] ta) (hcl:closureFor scope X.env=pure []) (hdef:defaultsOf params X.env=([],[])) (hq:X.env.qual++"<lambda>"=q)
  (S:LamSc scope x) (hb:∀(s:Shared) (u pm cv ctv:Value),BindsTo s (kla_fn "<lambda>" q params (ZcB x p1 p2 p3 p4 p5 kk) scope [] pm cv ctv) ⟨[u],[]⟩ [(x,u)])
  (he:backTo pos (starEach [e] X.env)=(false,eval e X.env)::backTo pos (starEach [] X.env):=by rfl) (hpl:(backTo pos (starEach [e] X.env)).any (·.1)=false:=by rfl):
  PE X (.Call (.Name "sorted" p) [e] [⟨some "key",.Lambda params (ZcB x p1 p2 p3 p4 p5 kk) scope lpos,kpos⟩] pos) (ZiG P lpos q ta):=by
 intro pins s σ H Q I h
 refine wpAny_Call_Name_kw (Zc6 I hg hm Zgv ?_)
 refine PyProof.Rows.callWith_kw (thn (ha pos pins s σ H _ I h) fun us s1 ⟨vs,H1,I1,r1,q1⟩=>?_) he hpl
 obtain⟨a,ws,rfl,hH,hw,T,q⟩:=q1
 show wpAny _ _ (evalAll ((do let v ←eval (.Lambda params (ZcB x p1 p2 p3 p4 p5 kk) scope lpos) X.env;standAt pos;pure v)::[])) _ _ s1
 refine wpAny_evalAll_cons (wpAny_bind (Zhh I1 L hcode hcl hdef hq T fun g H2 s2 cv ctv pm sl T2 fr I2 ho hcd=>wpAny_bind (wpAny_standAt (wpAny_pure (wpAny_evalAll_nil ?_)))))
 obtain⟨u,rfl,ru⟩:=r1.one
 cases ru
 have hH2:=sl.1 _ _ hH rfl
 obtain⟨hz,its,n,r,hlen',eo⟩:=I2.lstM hH2
 obtain⟨ew,hs⟩:=Zgz r
 have hN:its.length≤sizeLine:=by rw[←r.length];exact hz
 obtain⟨mb,b1,b2⟩:=I2.mod.blt
 have key:=ZjO (prog:=X.prog) (w:=X.w) (A:=X.A.in1.in1) (vs:=its) ho rfl hcd S (fun s u=>hb s u pm cv ctv) (show X.A.depth<recursionLimit by have:=hr.dp;omega) (I2.mod.nolimit.keeps I2.bk) (I2.mod.glob.keeps I2.bk) hlen (b1.keeps I2.bk) (b2 _ (by decide)) (fun v hv=>by
  obtain⟨y,t,e1,e2⟩:=hs v hv
  exact⟨y,t,e1,by rw[e2];exact hw _ (by rw[ew];exact List.mem_map_of_mem hv)⟩)
 refine ZeP eo key hN fun s' r' us e nr kp g1 o1 er pm2 pw=>?_
 have hs2:∀v∈us,∃y t,v=.str y t∧y.length=(txV v).length:=fun v hv=>hs v (pm2.mem_iff.mp hv)
 have rv:Vals ((us.map txV).map tx) us:=ZcZ us fun v hv=>let ⟨y,t,e,_⟩:=hs2 v hv;⟨y,t,e⟩
 have hl2:us.length=its.length:=pm2.length_eq
 have fr':H1 r'=none:=fr _ (I2.hok.none_of nr)
 have J:=I2.laid2 (s':=s') (a:=r') (o:=.lst ((us.map txV).map tx)) o1 g1 kp nr ⟨by rw[List.length_map,List.length_map];omega,us,e,rv,er⟩
 have hr2:=I2.hok.none_of nr
 refine⟨.ref r',_,J,rfl,q (us.map txV) r' _ (by rw[ew];exact pm2.map _) ?_ (sl.then (Zav hr2)) (T2.same (Zav hr2)) fr' Zad⟩
 rw[List.pairwise_map]
 refine pw.imp_of_mem fun {y z} hy hz e=>?_
 rw[←ZjK]
 obtain⟨y1,t1,e1,e2⟩:=hs2 y hy
 obtain⟨z1,t2,e3,e4⟩:=hs2 z hz
 subst e1 e3
 have f1:kfT (.str y1 t1)=((((txV (.str y1 t1)).length:Nat):Int),txV (.str y1 t1)):=by rw[←e2];rfl
 have f2:kfT (.str z1 t2)=((((txV (.str z1 t2)).length:Nat):Int),txV (.str z1 t2)):=by rw[←e4];rfl
 rw[f1,f2]at e
 exact e
end
def Zlr (o:Obj):Bool:=match o.cls,o.data with
 | .none,.fields _=>true
 | _,_=>false
def Zh9 (K:Frag):Bool:=K.all fun p=>!Zlr p.2
theorem Zec {K:Frag}(h:Zh9 K=true){b:Addr}{o:Obj}(e:K.lookup b=some o):Zlr o=false:=by
 unfold Zh9 at h
 rw[List.all_eq_true]at h
 have:∀(l:List (Addr×Obj)),l.lookup b=some o→(b,o)∈l:=fun l=>by
  induction l with
  | nil=>intro e;cases e
  | cons q r ih=>
   intro e
   obtain⟨b',o'⟩:=q
   rw[List.lookup_cons]at e
   by_cases z:b=b'
   ·subst z
    simp at e
    subst e
    exact List.mem_cons_self
   ·have z':(b == b')=false:=by simpa using z
    rw[z']at e
    exact List.mem_cons_of_mem _ (ih e)
 have:=h _ (this K e)
 simpa using this
structure TabOf (mg:Str→Option Value)(h:Heap)(n:Str)(c P:Addr):Prop where
 fn:∃a o fd,mg n=some (.ref a)∧h.get? a=some o∧o.data=.func fd∧fd.code=.ref c
 code:h.IsCode c P #[]
 tab:h.TableAt c P #[]
theorem TabOf.codeEq {mg:Str→Option Value}{h:Heap}{n:Str}{c P a:Addr}{o:Obj}{fd:FuncData}(t:TabOf mg h n c P)(e1:mg n=some (.ref a))(e2:h.get? a=some o)(e3:o.data=.func fd):fd.code=.ref c:=by
 obtain⟨a',o',fd',f1,f2,f3,f4⟩:=t.fn
 rw[e1]at f1;cases f1
 rw[e2]at f2;cases f2
 rw[e3]at f3;cases f3
 exact f4
theorem Zhf {P:Program}{w:World}{K:PySem.W.Frag}{mg mb:Str→Option Value}{CX:CXT}{k:Nat}{fa a:Addr}{fd:FuncData}{x:Str}{sp:Sp}{s₁:Shared}{vs:List Value}{ns:List Int}{nms:List Str}{tb:Str→Addr×Addr}
  (KX:K.In s₁.heap) (hns:s₁.heap.Ns mainGlobals mg) (hb:s₁.heap.Ns builtinsNs mb) (hbb:∀x:Str,x≠"__name__"→mb x=bootBuiltins x) (hlim:s₁.heap.NoLimit) (hg:s₁.gens=#[])
  (ha:s₁.heap.get? a=some { cls:=.type "list",data:=.seq vs.toArray }) (hi:IntsAre vs ns) (hl:ns.length≤sizeLine) (hr:Room k callerA)
  (hT:∀n∈nms,TabOf mg s₁.heap n (tb n).1 (tb n).2) (hKt:Zh9 K=true) (hbm:∃bm ob,mg "__builtins__"=some (.ref bm)∧bm≠builtinsNs∧s₁.heap.get? bm=some ob∧ob.cls=.type "module"∧ob.dict=some builtinsNs∧ob.data=.plain)
  (F:∀base:Heap,K.In base→base.Ns mainGlobals mg→(∀n∈nms,LamEnv base mg (tb n).1 (tb n).2)→FnOk P w K mg base CX k fa fd [x] sp) (hbind:∀(s:Shared) (u:Value),BindsTo s fd ⟨[u],[]⟩ [(x,u)])
  (hsp:∀H:Hp,(∀n∈nms,H (tb n).2=some (.tbl #[]))→SqL K H a (ns.map V.int)→sp [.ref a] H (fun v _=>v=.bl true) fun _ _ _=>False)
  (hCX:∀H e s',CX [] H s₁ (fun _ _ _=>False) e s'→False):
  codeAny (model P w) callerA (.call (.ref fa) ⟨[.ref a],[]⟩) (fun r s'=>r=.ok (.ret (.bool true))∧OldK s₁.heap s'.heap∧s'.os=s₁.os∧AllBare s'.gens) s₁:=by
 have rv:=Zcj hi
 have lenV:=hi.length
 have hta:∀n∈nms,s₁.heap.get? (tb n).2=some (tabObj #[]):=fun n hn=>(hT n hn).tab.2
 have aP:∀n∈nms,(tb n).2≠a:=fun n hn z=>by
  have e:=hta n hn
  rw[z,ha]at e
  have:=congrArg Obj.cls (Option.some.inj e)
  exact absurd (show Value.type "list"=Value.none from this) (by simp)
 let isP:Addr→Prop:=fun b=>∃n∈nms,(tb n).2=b
 have core:∀H:Hp,SqL K H a (ns.map V.int)→HOk P w H s₁.heap→(∀b,H b≠none→(b=a∧∃o xs,H b=some (.frz o (.lst xs)))∨(isP b∧H b=some (.tbl #[])))→(∀b,isP b→H b=some (.tbl #[]))→(H a≠none→K.lookup a=none) →
   codeAny (model P w) callerA (.call (.ref fa) ⟨[.ref a],[]⟩) (fun r s'=>r=.ok (.ret (.bool true))∧OldK s₁.heap s'.heap∧s'.os=s₁.os∧AllBare s'.gens) s₁:=by
  intro H hS hok hA hPt hK
  have base_of:∀ {b:Addr} {o:Obj},s₁.heap.get? b=some o→H b=none→(hidT s₁.heap H).get? b=some o:=fun e n=>ZfM e n
  have noT:∀ {b:Addr} {o:Obj},s₁.heap.get? b=some o→o≠tabObj #[]→o.cls≠.type "list"→H b=none:=fun {b o} e n1 n2=>by
   cases q:H b with
   | none=>rfl
   | some u=>
    rcases hA b (by rw[q];simp) with⟨e',_⟩|⟨⟨n,hn,e'⟩,_⟩
    ·subst e'
     rw[ha]at e;cases e
     exact absurd rfl n2
    ·subst e'
     rw[hta n hn]at e;cases e
     exact absurd rfl n1
  have noA:∀ {b:Addr} {o:Obj} {es:Array DictEntry} {ep:Nat},s₁.heap.get? b=some o→o.data=.dict es ep→H b=none:=fun {b o es ep} e d=>by
   cases q:H b with
   | none=>rfl
   | some u=>
    rcases hA b (by rw[q];simp) with⟨e',_⟩|⟨⟨n,hn,e'⟩,_⟩
    ·subst e'
     rw[ha]at e;cases e
     have d':Data.seq vs.toArray _=Data.dict es ep:=d
     cases d'
    ·subst e'
     rw[hta n hn]at e;cases e
     cases d
  have nsK:∀ {b:Addr} {m:Str→Option Value},s₁.heap.Ns b m→(hidT s₁.heap H).Ns b m:=fun {b m} ⟨o,es,ep,e,d,r⟩=>⟨o,es,ep,base_of e (noA e d),d,r⟩
  have hKb:K.In (hidT s₁.heap H):=fun b o e=>base_of (KX b o e) (by
   cases q:H b with
   | none=>rfl
   | some u=>
    rcases hA b (by rw[q];simp) with⟨e',_⟩|⟨⟨n,hn,e'⟩,_⟩
    ·subst e'
     rw[hK (by rw[q];simp)]at e;cases e
    ·subst e'
     have e1:=KX _ _ e
     rw[hta n hn]at e1
     have e2:=Zec hKt e
     rw[←Option.some.inj e1]at e2
     cases e2)
  have hM:Mod K mg (hidT s₁.heap H):=⟨hKb,nsK hns,⟨mb,nsK hb,hbb⟩,let ⟨mc,h1,h2⟩:=hlim;⟨mc,nsK h1,h2⟩⟩
  have e0:Env0 P w K mg (hidT s₁.heap H) callerA [] s₁ H:=⟨rfl,hM,fun b o e=>Zg7 e,Nat.le_of_eq (Zem _ _),trivial,fun b hb=>absurd (show b∈([]:List Addr) from hb) (by simp),hok,.of_eq hg⟩
  have hL:∀n∈nms,LamEnv (hidT s₁.heap H) mg (tb n).1 (tb n).2:=fun n hn=>by
   obtain⟨bm,ob,b1,b2,b3,b4,b5,b6⟩:=hbm
   obtain⟨oc,vc,file,tf,flags,tg,inF,text,tt,c1,c2,c3,r⟩:=CodeHd.of (hT n hn).code (hT n hn).tab
   refine⟨⟨oc,vc,file,tf,flags,tg,inF,text,tt,base_of c1 (noT c1 (fun z=>by rw[z]at c2;cases c2) (fun z=>by rw[c2]at z;exact absurd z (by decide))),c2,c3,r⟩,bm,ob,b1,b2,fun z=>?_,fun z=>?_,base_of b3 (noT b3 (fun z=>by rw[z]at b4;cases b4) (fun z=>by rw[b4]at z;exact absurd z (by decide))),b4,b5,b6⟩
   ·obtain⟨o,es,ep,e,d,_⟩:=hns
    rw[←z,b3]at e;cases e
    rw[b6]at d;cases d
   ·rw[z,hta n hn]at b3;cases b3
    cases b4
  refine codeAny_mono ((F _ hKb (nsK hns) hL).run callerA [] s₁ H ⟨[.ref a],[]⟩ [.ref a] [.ref a] _ _ hr e0 (hbind s₁ (.ref a)) (.cons rfl .nil) (hsp H (fun n hn=>hPt _ ⟨n,hn,rfl⟩) hS)) fun r s' h=>?_
  cases r with
  | error e=>exact(hCX H e s' h).elim
  | ok fl=>
   cases fl with
   | next=>exact False.elim h
   | brk=>exact False.elim h
   | cont=>exact False.elim h
   | ret u=>
    obtain⟨v,H',os,bare,un,hok',r',q⟩:=h
    have q':v=.bl true:=q
    subst q'
    obtain rfl:u=Value.bool true:=r'
    refine⟨rfl,⟨fun b o e=>?_,fun b o e=>un.there b o e (by simp)⟩,os,bare⟩
    cases q:H b with
    | none=>exact .inl (un.keep b o e q (by intro z;exact absurd (show b∈([]:List Addr) from z) (by simp)) (by simp))
    | some u=>
     rcases hA b (by rw[q];simp) with⟨_,ob,xs,z⟩|⟨⟨n,hn,e'⟩,z⟩
     ·have z2:=un.frzs b ob _ z
      obtain⟨e1,_⟩:=hok b _ z
      obtain⟨e2,_⟩:=hok' b _ z2
      rw[e]at e1;cases e1
      exact .inl e2
     ·obtain⟨more,z2⟩:=un.tbls b _ z
      have e1:s₁.heap.get? b=some (tabObj #[]):=hok b _ z
      have e2:s'.heap.get? b=some (tabObj (#[]++more)):=hok' b _ z2
      rw[e]at e1;cases e1
      exact .inr (.inl ⟨by rw[←e'];exact(hT n hn).tab.isCodeTable,rfl,#[],more,rfl,e2⟩)
 cases hk:K.lookup a with
 | some o=>
  have e:=KX a o hk
  rw[ha]at e
  cases e
  haveI:DecidablePred isP:=fun _=>Classical.propDecidable _
  refine core (fun b=>if isP b then some (.tbl #[]) else none) (.inr ⟨_,vs.toArray,_,hk,rfl,rfl,rfl,by rw[List.size_toArray,lenV];exact hl,by simpa using rv⟩) (fun b u z=>?_) (fun b z=>?_) (fun b hb=>if_pos hb) fun z=>?_
  ·by_cases hb:isP b
   ·have z':=(if_pos hb).symm.trans z
    cases z'
    obtain⟨n,hn,rfl⟩:=hb
    exact hta n hn
   ·have z':=(if_neg hb).symm.trans z
    cases z'
  ·by_cases hb:isP b
   ·exact .inr ⟨hb,if_pos hb⟩
   ·exact absurd (if_neg hb) z
  ·have:¬isP a:=fun ⟨n,hn,e⟩=>aP n hn e
   exact absurd (if_neg this) z
 | none=>
  haveI:DecidablePred isP:=fun _=>Classical.propDecidable _
  refine core (fun b=>if b=a then some (.frz { cls:=.type "list",data:=.seq vs.toArray } (.lst (ns.map V.int))) else if isP b then some (.tbl #[]) else none) (.inl (.inr ⟨{ cls:=.type "list",data:=.seq vs.toArray },if_pos rfl⟩)) (fun b u z=>?_) (fun b z=>?_) (fun b hb=>?_) fun _=>hk
  ·by_cases hb:b=a
   ·have z':=(if_pos hb).symm.trans z
    cases z'
    subst hb
    exact⟨ha,by rw[List.length_map];exact hl,vs,_,rv,ha⟩
   ·have z':=(if_neg hb).symm.trans z
    by_cases hp:isP b
    ·have z2:=(if_pos hp).symm.trans z'
     cases z2
     obtain⟨n,hn,rfl⟩:=hp
     exact hta n hn
    ·have z2:=(if_neg hp).symm.trans z'
     cases z2
  ·by_cases hb:b=a
   ·exact .inl ⟨hb,_,_,if_pos hb⟩
   ·by_cases hp:isP b
    ·exact .inr ⟨hp,by rw[if_neg hb,if_pos hp]⟩
    ·exact absurd (by rw[if_neg hb,if_neg hp]) z
  ·have nb:b≠a:=by obtain⟨n,hn,rfl⟩:=hb;exact aP n hn
   rw[if_neg nb,if_pos hb]
theorem walk_ofT {l:PySem.W.OpenLaw}{n k:Nat}{q:Program}{loose:List Str}{XP:(Str→Option Value)→Heap→Prop}{YP:World→Heap→Prop}{d:DefRec}{K:Params→PySem.W.Frag}{CX:CXT}{sp:PySem.W.Frag→(Str→Addr×Addr)→Sp}{x:Str}(nms:List Str)
  (hn:l.most=some n) (hn2:n≤sizeLine) (hdf:d.params.defaults=[]) (hr:Room k callerA)
  (hY:∀(w:World) (h:Heap),YP w h→(K w.params).In h) (hKt:∀P:Params,Zh9 (K P)=true) (hnm:(nms.all fun n=>(recsOf q).any fun e=>e.name == n)=true)
  (F:∀(w:World) (mg:Str→Option Value) (fa:Addr) (h:Heap) (tb:Str→Addr×Addr),(K w.params).In h→h.Ns mainGlobals mg→mg d.name=some (.ref fa)→(∀n∈nms,TabOf mg h n (tb n).1 (tb n).2) →
   ∃fd:FuncData,(∀(s:Shared) (u:Value),BindsTo s fd ⟨[u],[]⟩ [(x,u)]) ∧
    ∀base:Heap,(K w.params).In base→base.Ns mainGlobals mg→(∀n∈nms,LamEnv base mg (tb n).1 (tb n).2)→FnOk l.prog w (K w.params) mg base CX k fa fd [x] (sp (K w.params) tb))
  (hsp:∀(K:PySem.W.Frag) (tb:Str→Addr×Addr) (H:Hp) (a:Addr) (ns:List Int),ns.length≤n→(∀n∈nms,H (tb n).2=some (.tbl #[]))→SqL K H a (ns.map V.int)→sp K tb [.ref a] H (fun v _=>v=.bl true) fun _ _ _=>False)
  (hCX:∀(H:Hp) (s:Shared) (e:Value) (s':Shared),CX [] H s (fun _ _ _=>False) e s'→False):
  PySem.W.WalkO q loose XP YP l.row.toRowW d [] (fun f vs=>PySem.call f vs):=by
 refine Att.attach_call hn hdf fun w s₀ s₁ mg mb fa o pm cd doc a vs ns G Y ho hd hcd hmg hobj hints hlen hg=>?_
 have KX:=hY w _ Y
 have ex:∀n:Str,∃cp:Addr×Addr,n∈nms→TabOf mg s₁.heap n cp.1 cp.2:=fun n=>by
  by_cases h:n∈nms
  ·rw[List.all_eq_true]at hnm
   have:=hnm n h
   rw[List.any_eq_true]at this
   obtain⟨e,he,en⟩:=this
   have en:e.name=n:=by simpa using en
   obtain⟨a',o',fd',c,P,h1,h2,h3,h4,h5,h6⟩:=G.T.tab e he
   exact⟨(c,P),fun _=>⟨⟨a',o',fd',by rw[←en];exact h1,h2,h3,h4⟩,h5,h6⟩⟩
  ·exact⟨(0,0),fun z=>absurd z h⟩
 obtain⟨tb,htb⟩:=Classical.skolem.mp ex
 obtain⟨fd,hb,hF⟩:=F w mg fa _ tb KX G.T.g hmg htb
 exact Zhf KX G.T.g G.T.b G.T.builtins G.T.nolimit hg hobj hints (Nat.le_trans hlen hn2) hr htb (hKt _) G.T.bmain hF hb (fun H hP hS=>hsp (K w.params) tb H a ns hlen hP hS) fun H e s'=>hCX H s₁ e s'
section
variable {P:Program}{w:World}{K:PySem.W.Frag}{mg:Str→Option Value}{base:Heap}
theorem Fun.okC {x qual:Str}{st:Stmt}{f:Addr}{fd:FuncData}{N ps:List Str}{k:Nat}{sp:Sp}{c:Value}(F:Fun K x qual st f fd)(hc:fd.code=c)(S:FnScope N ps (Zah st))(len:∀vs H Q E,sp vs H Q E→vs.length=ps.length)
  (body:∀(A:Around) (outer:List Env) (s:Shared) (H:Hp) (vs:List V) (Q:VK) (E:XK),Room k (A.deeper (envOfC qual (Zah st) s.heap.objs.size f c))→sp vs H Q E →
   ∃t,PSs (cxOf CX0 P w K mg base N qual (Zah st) f c A outer s H E).nox (Zbh st) t∧t { nx:=fun _ H'=>Q .non H',rt:=Q } (start N vs) H):FnOk P w K mg base CX0 (k+1) f fd ps sp:=by
 obtain⟨⟨oc,od,kV,doc,pm,an,cdv,ct,osl,rfl,l,cc⟩,_⟩:=F
 obtain rfl:cdv=c:=hc
 refine ZlC l cc S len fun A outer s H vs Q E hr hsp=>?_
 obtain⟨t,h,q⟩:=body A outer s H vs Q E hr hsp
 exact⟨t,h.nox,q⟩
theorem Fun.at {x qual:Str}{st:Stmt}{f:Addr}{fd:FuncData}{h:Heap}(F:Fun K x qual st f fd)(KX:K.In h):∃o,h.get? f=some o∧o.data=.func fd:=by
 obtain⟨⟨oc,od,kV,doc,pm,an,cdv,ct,osl,rfl,l,cc⟩,_⟩:=F
 exact⟨_,KX _ _ l,rfl⟩
end
end L2
namespace L2
open PySem PySem.Spec PyProof.Rows
open PySem.W (Frag)
section
variable {τ0:St}{tt:TT}{te:TE}{H:Hp}{Q:VK}
end
section
variable {X:Cx}{pos:Pos}
def Zjg (tk tv:TE):TE:=fun σ H Q=>∀p,H p=none→tk σ (upd H p (.dT [])) fun x H1=>tv σ H1 fun y H2=>∃b ks,x=.ref b∧H2 b=some (.tup (ks.map kV))∧H2 p=some (.dT [])∧Q (.ref p) (upd H2 p (.dT [(ks,y)]))
end
end L2
namespace L2
open PySem PySem.Spec PyProof.Rows PySem.Builtin.Str
section
variable {X:Cx}
end
end L2
namespace L2
open PySem PySem.Spec PyProof.Rows
section
variable {X:Cx}{tg:Expr}
end
section
variable {X:Cx}{pins:List (Addr×Obj)}{σ:St}{H:Hp}{s:Shared}{a:Addr}{kvs:List (Key×V)}{k:Key}{v:V}{u w:Value}{A:Around}{E:Value→Shared→Prop}
theorem Zev {Q:Value→Shared→Prop}(I:Inv X pins σ H s)(e:H a=some (.dK kvs))(ry:RelV (kV k) u)(rv:RelV v w)(hz:kvs.length<sizeLine)
  (h1:∀x w' s',valV kvs k=some x→RelV x w'→Inv X pins σ H s'→Q w' s') (h2:valV kvs k=none→∀s',Inv X pins σ (upd H a (.dK (putK kvs k v))) s'→Q w s'):
  wpAny (model X.prog X.w) A (call (.builtin "dict.setdefault") [.ref a,u,w]) Q E s:=by
 obtain⟨z,hd,vs,rel,dd⟩:=Zgs I.hok e
 refine call_meetsIn PySem.F.slot_dict_setdefault dd.typeIs PySem.F.entry_dict_setdefault (PySem.F.args_dict_setdefault_3 _ _ _) (kt_meets_setdefault (Zao X.prog X.w) a (ZcW ry) hd w) ⟨vs,dd,by rw[←rel.length];exact z,fun x hx=>?_,fun hn h' dd' hs=>?_⟩
 ·have r:=rel.val k
  rw[hx]at r
  cases hv:valV kvs k with
  | none=>rw[hv]at r;exact(by cases r)
  | some y=>rw[hv]at r;exact h1 y x _ hv (by first | exact r | cases r;assumption) (I.tok _)
 ·have r:=rel.val k
  rw[hn]at r
  have hv:valV kvs k=none:=by
   cases hv:valV kvs k with
   | none=>rfl
   | some y=>rw[hv]at r;exact(by cases r)
  have he:∃q,h'.get? a=some q:=let ⟨q,_,_,hq,_⟩:=dd';⟨q,hq⟩
  have hl:(putK kvs k v).length≤sizeLine:=by have:=ZaA kvs k v;omega
  exact h2 hv _ (ZcK I (by rw[e];exact True.intro) hs he (Zes hl hd (rel.put k rv) dd'))
def Zkz (td ty tx:TE):TE:=fun σ H Q=>td σ H fun x H1=>∃a,x=.ref a∧IsD H1 a∧ty σ H1 fun y H2=>tx σ H2 fun z H3=>∃kvs k,H3 a=some (.dK kvs)∧y=kV k∧kvs.length<sizeLine ∧
 (∀v,valV kvs k=some v→Q v H3)∧(valV kvs k=none→Q z (upd H3 a (.dK (putK kvs k z))))
theorem ZcT {o e f:Expr} {td ty tx:TE} {apos cpos:Pos} (ho:PE X o td) (he:PE X e ty) (hf:PE X f tx) (m:M2 X o "setdefault" apos e f cpos):PE X (.Call (.Attribute o "setdefault" apos) [e,f] [] cpos) (Zkz td ty tx):=by
 intro pins s σ H Q I h
 refine wpAny_Call_method m.base m.few m.line PySem.F.plainAttrs_dict PySem.F.slot_dict_setdefault PySem.F.type_dict_setdefault (thn (ho pins s σ H _ I h) fun u s1 ⟨x,H1,I1,rx,a,ex,d,q1⟩=>?_)
 subst ex
 obtain rfl:u=Value.ref a:=rx
 obtain⟨t1,t2,_⟩:=Zhp I1 d
 refine⟨t1,t2,?_⟩
 rw[m.trees]
 refine Calls.callWith_builtin rfl (Calls.evalArgs_plain (Calls.spliced_cons (thn (he pins s1 σ H1 _ I1 q1) fun iv s2 ⟨y,H2,I2,ry,q2⟩=>
  Calls.spliced_cons (thn (hf pins s2 σ H2 _ I2 q2) fun fv s3 ⟨z,H3,I3,rz,kvs,k,ea,ey,hz,q3,q4⟩=>Calls.spliced_nil ?_))))
 subst ey
 exact Zev I3 ea ry rz hz (fun x w' s' hv r I4=>⟨x,H3,I4,r,q3 x hv⟩) fun hn s' I4=>⟨z,_,I4,rz,q4 hn⟩
end
end L2
namespace PySem
section
variable {prog:Program}{w:World}{K:Type}[DecidableEq K]{knd:HeapKind prog w K}{A:Around}{E:Value→Shared→Prop}{s:Shared}
end
end PySem
namespace L2
open PySem PySem.Spec PyProof.Rows
section
variable {X:Cx}{pins:List (Addr×Obj)}{σ:St}{H:Hp}{s:Shared}{a b:Addr}{kvs:List (List Key×V)}{k:List Key}{v:V}{w:Value}{A:Around}{E:Value→Shared→Prop}
noncomputable def tDSetT (td ty tx:TE):TE:=fun σ H Q=>td σ H fun x H1=>∃a,x=.ref a∧IsD H1 a∧ty σ H1 fun y H2=>tx σ H2 fun z H3=>∃kvs k b,H3 a=some (.dT kvs)∧y=.ref b∧H3 b=some (.tup (k.map kV))∧kvs.length<sizeLine ∧
 (∀v,valV kvs k=some v→Q v H3)∧(valV kvs k=none→Q z (upd H3 a (.dT (putK kvs k z))))
end
end L2
namespace L2
open PySem PySem.Spec PyProof.Rows PySem.W
section
variable {prog:Program}{w:World}{A:Around}{E:Value→Shared→Prop}{s:Shared}
end
def Zje (P:Addr)(lpos:Pos)(q:Str)(ta:TA):TE:=fun σ H Q=>ta σ H fun vs H1=>∃(a:Addr) (kvs:List (Key×V)) (ws:List (List Nat)),vs=[.ref a]∧H1 a=some (.dK kvs)∧kvs.map (·.1)=ws.map kTx∧(∀w∈ws,w.length≤sizeLine)∧TblOk H1 P lpos q ∧
 ∀(ws':List (List Nat)) (r:Addr) (H2:Hp),ws'.Perm ws→ws'.Pairwise (fun a b=>¬BefW b a)→SameT lpos H1 H2→TblOk H2 P lpos q→H1 r=none→H2 r=some (.lst (ws'.map tx))→Q (.ref r) H2
section
variable {X:Cx}{e:Expr}{ta:TA}{p pos kpos lpos p1 p2 p3 p4 p5:Pos}{k kk:Nat}{c P:Addr}{params:Arguments}{scope:Scope}{x q:Str}
end
section
variable {X:Cx}{o:Expr}{td:TE}{p pos ap cp:Pos}
end
end L2
namespace L2
open PySem PySem.Spec PyProof.Rows
section
variable {X:Cx}{es:List Expr}{x1:Nat}{tp:Pos}
end
end L2
namespace L2
open PySem PySem.Spec PyProof.Rows PySem.W
theorem KV.getV {kvs:List (Key×V)}{vs:List (Key×Value)}(r:KV kvs vs):∀ {i:Nat} {p:Key×V},kvs[i]?=some p→∃v,vs[i]?=some (p.1,v)∧RelV p.2 v:=by
 induction r with
 | nil=>intro i p h;simp at h
 | cons hd _ ih=>
  intro i p h
  cases i with
  | zero=>
   rename_i p0 q0 _ _ _
   have h:p0=p:=by simpa using h
   subst h
   exact⟨q0.2,by show some q0=some (p0.1,q0.2);rw[hd.1],hd.2⟩
  | succ i=>
   obtain⟨v,h1,h2⟩:=ih (by simpa using h)
   exact⟨v,by simpa using h1,h2⟩
def Itv (o:Obj)(kvs:List (Key×V))(a:Addr):It:=
 ⟨fun i H=>H a=some (.frz o (.dK kvs))∧i<kvs.length,fun i H x H'=>H'=H∧∃p,kvs[i]?=some p∧x=p.2,fun i H=>H a=some (.frz o (.dK kvs))∧kvs.length≤i⟩
theorem ZeM {P:Program}{w:World}{K:PySem.W.Frag}{tg:Expr}{o:Obj}{es:Array DictEntry}{ep:Nat}{kvs:List (Key×V)}(a it:Addr)(hd:o.data=.dict es ep):Turn P w K tg (Itv o kvs a) [it] it (fun i h=>h.IsValIter it a i kvs.length ep) where
 mem:=by simp
 obj:=fun i h st b hb=>by
  have e:b=it:=by simpa using hb
  subst e
  obtain⟨o,e,c,d⟩:=st
  exact⟨o,e,fun v z=>by rw[d]at z;cases z⟩
 keep:=fun i h h' st k=>let ⟨o,ho,r⟩:=st;⟨o,k it (by simp) o ho,r⟩
 item:=by
  intro X hP hw hK hc i pins s σ H E I hf st hg
  subst hP hw hK
  obtain⟨ha,hi⟩:=hg
  obtain⟨e,z,y,vs,r,o',es',ep',e',c1,c2,c3⟩:=I.hok a _ ha
  rw[e]at e'
  cases e'
  rw[hd]at c2
  cases c2
  obtain⟨v,hv,rv⟩:=KV.getV r (List.getElem?_eq_getElem hi)
  obtain⟨f0,f1,f2,f3,f4,f5⟩:=hf it (by simp)
  rw[r.length]at st
  refine wpAny_pyNext_values_item st ⟨o,es,e,c1,hd,c3⟩ hv fun h' st' sb=>?_
  have I1:Inv X pins σ H { s with heap:=h' }:=I.turned (t':=s.toks) (fun b o hb e=>(sb.2 b hb).trans e) f0 f1 f3 f4 f5
  obtain⟨oi,ei,ci,di⟩:=id st'
  rw[←r.length]at st'
  exact⟨v,rfl,Zhu (s:={ s with heap:=h' }) ei ci di (by decide) ⟨kvs[i].2,H,I1,rv,⟨rfl,_,List.getElem?_eq_getElem hi,rfl⟩,st',fun b hb=>(hf b hb).1⟩⟩
 done:=by
  intro X hP hw hK hc i pins s σ H E I hf st hg
  subst hP hw hK
  obtain⟨ha,hi⟩:=hg
  obtain⟨e,z,y,vs,r,o',es',ep',e',c1,c2,c3⟩:=I.hok a _ ha
  rw[e]at e'
  cases e'
  rw[hd]at c2
  cases c2
  obtain⟨f0,f1,f2,f3,f4,f5⟩:=hf it (by simp)
  rw[r.length]at st hi
  exact wpAny_pyNext_values_end (I.ok.hd hc) st ⟨o,es,e,c1,hd,c3⟩ (List.getElem?_eq_none hi) fun h' eb=>⟨rfl,I.turned (t':=s.toks) (fun b o hb e=>eb b o hb e) f0 f1 f3 f4 f5⟩
 self:=fun _ _ _ _ _ st h=>wpAny_pyIter_valiter st h
section
variable {X:Cx}{tg:Expr}{o:Expr}{td:TE}{ap cp:Pos}
def Zlu (td:TE):TI:=fun σ H R=>td σ H fun x H1=>∃a kvs,x=.ref a∧H1 a=some (.dK kvs)∧∀o,R (Itv o kvs a) (upd H1 a (.frz o (.dK kvs)))
theorem ZgY (ho:PE X o td) (hbase:attributeBase o "values" X.env (eval o X.env)=eval o X.env:=by rfl) (hline:(ap.endLine == cp.line)=true:=by rfl):PI X tg (.Call (.Attribute o "values" ap) [] [] cp) (Zlu td):=by
 intro pins s σ H R I h
 refine wpAny_Call_method (T:="dict") (id:="dict.values") hbase rfl hline PySem.F.plainAttrs_dict PySem.F.slot_dict_values PySem.F.type_dict_values (thn (ho pins s σ H _ I h) fun u s1 ⟨x,H1,I1,rx,a,kvs,ex,ha,q⟩=>?_)
 subst ex
 obtain rfl:u=Value.ref a:=rx
 obtain⟨hz,hd,vs,r,dd⟩:=Zgs I1.hok ha
 obtain⟨ob,es,ep,e1,e2,e3,e4⟩:=id dd
 refine⟨dd.typeIs,fun b z=>?_,?_⟩
 ·cases z
  exact⟨ob,e1,e2.2.1⟩
 refine method_meetsIn PySem.F.slot_dict_values PySem.F.entry_dict_values rfl (PySem.evalArgs_none ⟨rfl,dd.typeIs,PySem.F.args_dict_values_1 _,_,meets_dict_values _ a hd,⟨vs,dd⟩,?_⟩)
 obtain⟨o2,es2,ep2,hd2,ho2,I2⟩:=I1.freezeD ha
 rw[e1]at ho2
 cases ho2
 rw[e3]at hd2
 cases hd2
 generalize hg2:s1.heap.push { cls:=.type "dict_values",data:=.fields #[.ref a] }=g2
 have k2:∀b o,s1.heap.get? b=some o→g2.get? b=some o:=fun b o e=>by rw[←hg2];exact Heap.get?_push_of_some _ e
 have vw:g2.IsValuesView s1.heap.objs.size a:=⟨_,by rw[←hg2];exact Heap.get?_push_size _ rfl,rfl,rfl⟩
 have I3:Inv X pins σ (upd H1 a (.frz ob (.dK kvs))) { s1 with heap:=g2 }:=I2.kept (t':=s1.toks) k2
 refine wpAny_pyIter_values (s:={ s1 with heap:=g2 }) vw (show g2.DictAt (Zao X.prog X.w) a vs ep from⟨ob,es,k2 _ _ e1,e2,e3,e4⟩) ?_
 refine⟨g2.objs.size,[g2.objs.size],_,_,_,rfl,I3.kept (t':=s1.toks) fun b o e=>Heap.get?_push_of_some _ e,ZeM (kvs:=kvs) a _ e3,⟨_,Heap.get?_push_size _ rfl,rfl,by rw[r.length];rfl⟩,fun b hb=>?_,q ob⟩
 have e:b=g2.objs.size:=by simpa using hb
 subst e
 exact I3.fpOk (Nat.le_refl _) (I3.hok.fresh (Nat.le_refl _))
variable {els:List Expr}{x1:Nat}{tp:Pos}
end
section
variable {g:TG}{tb:TS}{D:Ends}{σ:St}{H:Hp}{o:Obj}{kvs:List (Key×V)}{a:Addr}
end
section
variable {Q:VK}{τ0:St}{H:Hp}{o:Obj}{kvs:List (Key×V)}{a:Addr}{te:TE}
end
end L2
namespace PySem
noncomputable def RawD (h:Heap) (d:Addr) (es:Array DictEntry) (ep:Nat):Prop:=∃o,h.get? d=some o∧o.ExactDict∧o.data=.dict es ep
section
variable {prog:Program}{w:World}{A:Around}{E:Value→Shared→Prop}{s:Shared}{d v it i ep:Nat}{es:Array DictEntry}
theorem RawD.at {h h':Heap}(x:RawD h d es ep)(e:∀o,h.get? d=some o→h'.get? d=some o):RawD h' d es ep:=let ⟨o,ho,r⟩:=x;⟨o,e _ ho,r⟩
end
end PySem
namespace L2
open PySem PySem.Spec PyProof.Rows PySem.W
noncomputable def tListVT (td:TE):TE:=fun σ H Q=>td σ H fun x H1=>∃(a:Addr) (kvs:List (List Key×V)),x=.ref a∧H1 a=some (.dT kvs)∧NewL (kvs.map (·.2)) H1 Q
theorem KT.at {H:Hp}{kvs:List (List Key×V)}{xs:List (List Key×Addr×Value)}(r:KT H kvs xs):∀(i:Nat) (x:List Key×V) (u:List Key×Addr×Value),kvs[i]?=some x→xs[i]?=some u→RelV x.2 u.2.2:=by
 induction r with
 | nil=>intro i x u h;simp at h
 | cons hd _ ih=>
  intro i x u h1 h2
  cases i with
  | zero=>
   have e1:=Option.some.inj h1
   have e2:=Option.some.inj h2
   rw[←e1,←e2]
   exact hd.2.2
  | succ i=>exact ih i x u (by simpa using h1) (by simpa using h2)
section
variable {X:Cx}{o:Expr}{td:TE}{p pos ap cp:Pos}
end
end L2
namespace L2
open PySem PySem.Spec PyProof.Rows
section
variable {tt:TT}{te:TE}{Q:VK}{τ0:St}{H:Hp}{o:Obj}{kvs:List (Key×V)}{a:Addr}
theorem CompRun.keys (b:Nat→Bool)(f:Nat→V)(hz:kvs.length≤100000)(hx:H a=some (.frz o (.dK kvs)))
  (ht:∀i p H' Q',kvs[i]?=some p→Same H H'→(∀H'',Same H' H''→Q' (b i) H'')→tt (τ0.set 0 (some (kV p.1))) H' Q')
  (he:∀i p H' Q',kvs[i]?=some p→b i=true→Same H H'→(∀H'',Same H' H''→Q' (f i) H'')→te (τ0.set 0 (some (kV p.1))) H' Q')
  (hQ:∀p H',Same H H'→H p=none→H' p=some (.lst (((List.range kvs.length).filter b).map f))→Q (.ref p) H'):CompRun (Itd o kvs a) τ0 (ZbK 0) tt te H Q:=by
 intro acc ha
 refine⟨fun i m τ H2=>i≤kvs.length∧m=kvs.length-i∧(∀w:Option V,τ.set 0 w=τ0.set 0 w)∧Same H H2∧H2 acc=some (.lst (((List.range i).filter b).map f)),⟨kvs.length,Nat.zero_le _,rfl,fun _=>rfl,Zav ha,Zad⟩,?_⟩
 rintro i m τ H2 ⟨hi,rfl,hτ,hs,hacc⟩
 by_cases hlt:i<kvs.length
 ·refine .inr ⟨⟨hs _ _ hx,hlt⟩,fun τ' H'=>(∀w:Option V,τ'.set 0 w=τ0.set 0 w)∧Same H H'∧H' acc=some (.lst (((List.range (i+1)).filter b).map f)),fun τ' H' q=>⟨kvs.length-(i+1),by omega,hlt,rfl,q⟩,fun x H3 y=>?_⟩
  obtain⟨rfl,p,hp,rfl⟩:=y
  show tt (τ.set 0 (some (kV p.1))) _ _
  rw[hτ]
  have hτ':∀w:Option V,(τ0.set 0 (some (kV p.1))).set 0 w=τ0.set 0 w:=fun w=>by rw[List.set_set]
  refine ht i p _ _ hp hs fun H4 s4=>?_
  cases hb:b i with
  | false=>
   rw[if_neg Bool.false_ne_true]
   refine⟨hτ',hs.trans s4,?_⟩
   rw[s4 _ _ hacc,List.range_succ,List.filter_append]
   simp[hb]
  | true=>
   rw[if_pos rfl]
   refine he i p _ _ hp hb (hs.trans s4) fun H5 s5=>⟨_,s5 _ _ (s4 _ _ hacc),?_,hτ',same_upd3' ha ((hs.trans s4).trans s5),?_⟩
   ·rw[List.length_map]
    have:=List.length_filter_le b (List.range i)
    rw[List.length_range]at this
    rw[sizeLine_eq];omega
   ·rw[Zad,List.range_succ,List.filter_append]
    simp[hb]
 ·have e:i=kvs.length:=by omega
  subst e
  exact .inl ⟨⟨hs _ _ hx,Nat.le_refl _⟩,hQ acc H2 hs ha hacc⟩
end
section
variable {te:TE}{Q:VK}{τ0:St}{H:Hp}
end
end L2
namespace L2
open PySem PySem.W
def DG (K:Frag)(x:Str)(s:Stmt)(f:Addr)(e:FuncData):Prop:=nsIn K mainGlobals x=some (some (.ref f))∧Fun K x x s f e
def MG (K:Frag)(x q:Str)(s:Stmt)(f:Addr)(e:FuncData):Prop:=Fun K x q s f e∧PySem.W.isFn K (.ref f)=true
structure XG (K:Frag)(x:Str)(C:Addr)(L:List Value):Prop where
 a:nsIn K mainGlobals x=some (some (.ref C))
 m:Xm K C
 i:Xi K C
 k:ClsOk K C L
theorem dg_mk {K:Frag}{x:Str}{st:Stmt}{f:Addr}{oc:Value}{od an:Option Addr}{osl:Array (Option Value)}{kV doc pm cdv ct:Value}(a:nsIn K mainGlobals x=some (some (.ref f)))(l:K.lookup f=some ⟨oc,od,.func (PySem.W.fnOf x x (Zbt st) (Zbh st) (Zah st) .none kV doc pm an cdv ct),osl⟩)
  (c:PySem.W.codeIn K cdv x=true) (k:PySem.W.keepIn K (.ref f)=true):DG K x st f (PySem.W.fnOf x x (Zbt st) (Zbh st) (Zah st) .none kV doc pm an cdv ct):=⟨a,ZiV l c k⟩
theorem mg_mk {K:Frag}{x q:Str}{st:Stmt}{f:Addr}{oc:Value}{od an:Option Addr}{osl:Array (Option Value)}{kV doc pm cdv ct:Value}(l:K.lookup f=some ⟨oc,od,.func (PySem.W.fnOf x q (Zbt st) (Zbh st) (Zah st) .none kV doc pm an cdv ct),osl⟩)
  (c:PySem.W.codeIn K cdv q=true) (k:PySem.W.keepIn K (.ref f)=true) (n:PySem.W.isFn K (.ref f)=true):MG K x q st f (PySem.W.fnOf x q (Zbt st) (Zbh st) (Zah st) .none kV doc pm an cdv ct):=⟨ZiV l c k,n⟩
end L2
namespace L2
open PySem PySem.Spec PyProof.Rows
structure PAz (X:Cx)(es:List Expr)(t:TA):Prop where
 h:PA X es t
instance (l w:List Nat) (i:Nat):Decidable (AtW l w i):=by unfold AtW;infer_instance
def ZiW (l:List Nat):List Nat:=(List.range (l.length+1)).filter fun i=>decide (∀j,j<i→¬AtW l (l.drop i) j)
def Zjn (l w:List Nat):List Nat:=((ZiW l).filter fun i=>decide (AtW l w i)).map (· + w.length)
theorem Zcf {α:Type}[DecidableEq α]:∀(l m:List α),l.Nodup→(∀x∈l,x∈m)→l.length≤m.length
 | [],m,_,_=>Nat.zero_le _
 | x::l,m,nd,h=>by
  have hx:=h x List.mem_cons_self
  have nd':=List.nodup_cons.mp nd
  have:=Zcf l (m.erase x) nd'.2 fun y hy=>(List.mem_erase_of_ne (fun e=>by rw[e]at hy;exact nd'.1 hy)).mpr (h y (List.mem_cons_of_mem _ hy))
  rw[List.length_erase_of_mem hx]at this
  have pos:0<m.length:=List.length_pos_of_mem hx
  rw[List.length_cons]
  omega
theorem Rd.same {H H':Hp}{a:Addr}{u:HO}(h:Rd H a u)(s:Same H H'):Rd H' a u:=h.elim (fun h=>.inl (s _ _ h)) fun ⟨o,h⟩=>.inr ⟨o,s _ _ h⟩
section
variable {prog:Program}{w:World}{A:Around}{E:Value→Shared→Prop}{s:Shared}
end
section
variable {prog:Program}{w:World}{A:Around}{E:Value→Shared→Prop}{s:Shared}
end
section
variable {X:Cx}
end
end L2
namespace L2
open PySem PySem.Spec PyProof.Rows PySem.W
section
variable {te:TE}{Q:VK}{τ0:St}{H:Hp}{K:Frag}{a:Addr}{xs:List V}
end
end L2
namespace L2
open PySem PySem.Spec PyProof.Rows
open PySem.W (Frag)
section
variable {X:Cx}{es:List Expr}{x1:Nat}{tp:Pos}
end
end L2
namespace L2
open PySem PySem.Spec PyProof.Rows
def Zbp (t:TS):TS:=t
theorem Zai {X:Cx}{st:List Stmt}{t:TS}(h:PSs X st t):PSs X st (Zbp t):=h
theorem Zal {t:TS}{D:Ends}{σ:St}{H:Hp}(h:t D σ H):Zbp t D σ H:=h
section
variable {X:Cx}
def Zkv (t:TX):TX:=fun σ H Q E=>t σ H (fun x H1=>1≤sizeLine∧NewL [x] H1 Q) E
end
end L2
set_option maxHeartbeats 400000000
namespace Pk63
open PySem L2
def top (i:Nat):Stmt:=PySem.Challenge.pw_lackword_k63_the_strip_of_its_list.main.body.getD i (.Pass ⟨0,0,0,0⟩)
abbrev s_KP:Stmt:=top 14
abbrev s_KR:Stmt:=top 15
abbrev s_KV:Stmt:=top 16
abbrev s_KK:Stmt:=top 17
abbrev s_KN:Stmt:=top 18
abbrev s_KQ:Stmt:=top 21
abbrev s_K2:Stmt:=top 22
abbrev s_K4:Stmt:=top 24
abbrev s_KM:Stmt:=top 30
abbrev s_KZ:Stmt:=top 31
abbrev s_KT:Stmt:=top 33
abbrev s_LA:Stmt:=top 34
abbrev s_K0:Stmt:=top 35
abbrev s_LC:Stmt:=top 36
abbrev s_K6:Stmt:=top 37
abbrev s_KW:Stmt:=top 39
abbrev s_KY:Stmt:=top 40
abbrev s_KU:Stmt:=top 41
abbrev s_K7:Stmt:=top 43
abbrev s_K9:Stmt:=top 44
abbrev s_K1:Stmt:=top 45
abbrev s_K5:Stmt:=top 46
abbrev s_K8:Stmt:=top 47
abbrev s_KO:Stmt:=top 48
abbrev s_KX:Stmt:=top 49
abbrev s_KS:Stmt:=top 50
abbrev Zjw:Stmt:=top 51
abbrev s_KL:Stmt:=inClass (top 25) 0
abbrev s_KA:Stmt:=inClass (top 25) 3
abbrev s_KG:Stmt:=inClass (top 25) 4
abbrev s_KF:Stmt:=inClass (top 25) 7
abbrev s_KD:Stmt:=inClass (top 25) 8
abbrev s_KJ:Stmt:=inClass (top 26) 0
set_option genInjectivity false
set_option genSizeOf false
structure Ad where
 c_LB:Addr
 c_K3:Addr
 g_KL:Addr
 e_KL:FuncData
 g_KA:Addr
 e_KA:FuncData
 g_KG:Addr
 e_KG:FuncData
 g_KF:Addr
 e_KF:FuncData
 g_KD:Addr
 e_KD:FuncData
 g_KJ:Addr
 e_KJ:FuncData
 f_KP:Addr
 d_KP:FuncData
 f_KR:Addr
 d_KR:FuncData
 f_KV:Addr
 d_KV:FuncData
 f_KK:Addr
 d_KK:FuncData
 f_KN:Addr
 d_KN:FuncData
 f_KQ:Addr
 d_KQ:FuncData
 f_K2:Addr
 d_K2:FuncData
 f_K4:Addr
 d_K4:FuncData
 f_KM:Addr
 d_KM:FuncData
 f_KZ:Addr
 d_KZ:FuncData
 f_KT:Addr
 d_KT:FuncData
 f_LA:Addr
 d_LA:FuncData
 f_K0:Addr
 d_K0:FuncData
 f_LC:Addr
 d_LC:FuncData
 f_K6:Addr
 d_K6:FuncData
 f_KW:Addr
 d_KW:FuncData
 f_KY:Addr
 d_KY:FuncData
 f_KU:Addr
 d_KU:FuncData
 f_K7:Addr
 d_K7:FuncData
 f_K9:Addr
 d_K9:FuncData
 f_K1:Addr
 d_K1:FuncData
 f_K5:Addr
 d_K5:FuncData
 f_K8:Addr
 d_K8:FuncData
 f_KO:Addr
 d_KO:FuncData
 f_KX:Addr
 d_KX:FuncData
 f_KS:Addr
 d_KS:FuncData
 f_law:Addr
 d_law:FuncData
 t_KQ:Addr
 k_KQ:Addr
structure Txt (K:PySem.W.Frag)(mg:Str→Option Value)(a:Ad):Prop where
 m_KP:mg "has_only"=some (.ref a.f_KP)
 f_KP:Fun K "has_only" "has_only" s_KP a.f_KP a.d_KP
 b_KP:Binds K a.d_KP ["text","letters"] []
 m_KR:mg "is_kinds"=some (.ref a.f_KR)
 f_KR:Fun K "is_kinds" "is_kinds" s_KR a.f_KR a.d_KR
 b_KR:Binds K a.d_KR ["thing"] []
 m_KV:mg "is_word"=some (.ref a.f_KV)
 f_KV:Fun K "is_word" "is_word" s_KV a.f_KV a.d_KV
 b_KV:Binds K a.d_KV ["thing","kinds","most"] []
 m_KK:mg "need_kinds"=some (.ref a.f_KK)
 f_KK:Fun K "need_kinds" "need_kinds" s_KK a.f_KK a.d_KK
 b_KK:Binds K a.d_KK ["thing"] []
 m_KN:mg "need_word"=some (.ref a.f_KN)
 f_KN:Fun K "need_word" "need_word" s_KN a.f_KN a.d_KN
 b_KN:Binds K a.d_KN ["thing","kinds","most"] []
 m_KQ:mg "in_order"=some (.ref a.f_KQ)
 f_KQ:Fun K "in_order" "in_order" s_KQ a.f_KQ a.d_KQ
 b_KQ:Binds K a.d_KQ ["words"] []
 m_K2:mg "pieces"=some (.ref a.f_K2)
 f_K2:Fun K "pieces" "pieces" s_K2 a.f_K2 a.d_K2
 b_K2:Binds K a.d_K2 ["text","length"] []
 m_K4:mg "lacking_among"=some (.ref a.f_K4)
 f_K4:Fun K "lacking_among" "lacking_among" s_K4 a.f_K4 a.d_K4
 b_K4:Binds K a.d_K4 ["shorter","standing","kinds"] []
 m_KM:mg "need_list"=some (.ref a.f_KM)
 f_KM:Fun K "need_list" "need_list" s_KM a.f_KM a.d_KM
 b_KM:Binds K a.d_KM ["words","kinds"] []
 m_KZ:mg "avoids"=some (.ref a.f_KZ)
 f_KZ:Fun K "avoids" "avoids" s_KZ a.f_KZ a.d_KZ
 b_KZ:Binds K a.d_KZ ["words","word"] []
 m_KT:mg "refuse_inside"=some (.ref a.f_KT)
 f_KT:Fun K "refuse_inside" "refuse_inside" s_KT a.f_KT a.d_KT
 b_KT:Binds K a.d_KT ["words"] []
 m_LA:mg "stems_of"=some (.ref a.f_LA)
 f_LA:Fun K "stems_of" "stems_of" s_LA a.f_LA a.d_LA
 b_LA:Binds K a.d_LA ["words"] []
 m_K0:mg "ending_stem"=some (.ref a.f_K0)
 f_K0:Fun K "ending_stem" "ending_stem" s_K0 a.f_K0 a.d_K0
 b_K0:Binds K a.d_K0 ["stems","text"] []
 m_LC:mg "ways_between"=some (.ref a.f_LC)
 f_LC:Fun K "ways_between" "ways_between" s_LC a.f_LC a.d_LC
 b_LC:Binds K a.d_LC ["words","kinds"] []
 m_K6:mg "stems_that_end"=some (.ref a.f_K6)
 f_K6:Fun K "stems_that_end" "stems_that_end" s_K6 a.f_K6 a.d_K6
 b_K6:Binds K a.d_K6 ["ways"] []
 m_KW:mg "longest_word"=some (.ref a.f_KW)
 f_KW:Fun K "longest_word" "longest_word" s_KW a.f_KW a.d_KW
 b_KW:Binds K a.d_KW ["ways","ended"] []
 m_KY:mg "refuse_split"=some (.ref a.f_KY)
 f_KY:Fun K "refuse_split" "refuse_split" s_KY a.f_KY a.d_KY
 b_KY:Binds K a.d_KY ["words","kinds","text"] []
 m_KU:mg "strip_of"=some (.ref a.f_KU)
 f_KU:Fun K "strip_of" "strip_of" s_KU a.f_KU a.d_KU
 b_KU:Binds K a.d_KU ["words","kinds"] []
 m_K7:mg "_law_cell_at"=some (.ref a.f_K7)
 f_K7:Fun K "_law_cell_at" "_law_cell_at" s_K7 a.f_K7 a.d_K7
 b_K7:Binds K a.d_K7 ["_law_script","_law_k"] []
 m_K9:mg "_law_mixed"=some (.ref a.f_K9)
 f_K9:Fun K "_law_mixed" "_law_mixed" s_K9 a.f_K9 a.d_K9
 b_K9:Binds K a.d_K9 ["_law_cell","_law_k"] []
 m_K1:mg "_law_kinds"=some (.ref a.f_K1)
 f_K1:Fun K "_law_kinds" "_law_kinds" s_K1 a.f_K1 a.d_K1
 b_K1:Binds K a.d_K1 ["_law_cell"] []
 m_K5:mg "_law_drawn"=some (.ref a.f_K5)
 f_K5:Fun K "_law_drawn" "_law_drawn" s_K5 a.f_K5 a.d_K5
 b_K5:Binds K a.d_K5 ["_law_cell","_law_by_digits","_law_kinds_here","_law_many"] []
 m_K8:mg "_law_text"=some (.ref a.f_K8)
 f_K8:Fun K "_law_text" "_law_text" s_K8 a.f_K8 a.d_K8
 b_K8:Binds K a.d_K8 ["_law_cell","_law_way","_law_kinds_here","_law_most"] []
 m_KO:mg "_law_stretches"=some (.ref a.f_KO)
 f_KO:Fun K "_law_stretches" "_law_stretches" s_KO a.f_KO a.d_KO
 b_KO:Binds K a.d_KO ["_law_text_here"] []
 m_KX:mg "_law_missing"=some (.ref a.f_KX)
 f_KX:Fun K "_law_missing" "_law_missing" s_KX a.f_KX a.d_KX
 b_KX:Binds K a.d_KX ["_law_texts","_law_kinds_here"] []
 m_KS:mg "_law_mixed_up"=some (.ref a.f_KS)
 f_KS:Fun K "_law_mixed_up" "_law_mixed_up" s_KS a.f_KS a.d_KS
 b_KS:Binds K a.d_KS ["_law_words","_law_cell"] []
 m_law:mg "law"=some (.ref a.f_law)
 f_law:Fun K "law" "law" Zjw a.f_law a.d_law
 b_law:Binds K a.d_law ["_law_script"] []
 m_LB:mg "Band"=some (.ref a.c_LB)
 cr_LB:ClsRead K a.c_LB "__init__" (.ref a.g_KL)
 cl_LB:Cls K a.c_LB
 m_K3:mg "Plain"=some (.ref a.c_K3)
 cr_K3:ClsRead K a.c_K3 "__init__" (.ref a.g_KJ)
 cl_K3:Cls K a.c_K3
 mk_K3:Mk K a.c_K3 a.g_KJ
 me_Plain_words:Meth K a.c_K3 "words" a.g_KG
 me_Plain_laid_out:Meth K a.c_K3 "laid_out" a.g_KA
 me_Plain_reach:Meth K a.c_K3 "reach" a.g_KF
 me_Plain_lacking:Meth K a.c_K3 "lacking" a.g_KD
 n_Plain_own_text:NoAttr K a.c_K3 "own_text"
 n_Plain_own_kinds:NoAttr K a.c_K3 "own_kinds"
 ty_K3:∀ {H:Hp} {x dx:Addr} {fs:List (Str×V)},H x=some (.ins a.c_K3 dx fs)→TyOf K H (.ref x) (.ref a.c_K3)
 fm_KL:Fun K "__init__" "Band.__init__" s_KL a.g_KL a.e_KL
 kp_KL:PySem.W.keepIn K (.ref a.g_KL)=true
 b_KL:Binds K a.e_KL ["self","text","kinds"] []
 fm_KA:Fun K "laid_out" "Band.laid_out" s_KA a.g_KA a.e_KA
 kp_KA:PySem.W.keepIn K (.ref a.g_KA)=true
 b_KA:Binds K a.e_KA ["self","length"] []
 fm_KG:Fun K "words" "Band.words" s_KG a.g_KG a.e_KG
 kp_KG:PySem.W.keepIn K (.ref a.g_KG)=true
 b_KG:Binds K a.e_KG ["self","length"] []
 fm_KF:Fun K "reach" "Band.reach" s_KF a.g_KF a.e_KF
 kp_KF:PySem.W.keepIn K (.ref a.g_KF)=true
 b_KF:Binds K a.e_KF ["self"] []
 fm_KD:Fun K "lacking" "Band.lacking" s_KD a.g_KD a.e_KD
 kp_KD:PySem.W.keepIn K (.ref a.g_KD)=true
 b_KD:Binds K a.e_KD ["self"] []
 fm_KJ:Fun K "__init__" "Plain.__init__" s_KJ a.g_KJ a.e_KJ
 kp_KJ:PySem.W.keepIn K (.ref a.g_KJ)=true
 b_KJ:Binds K a.e_KJ ["self","text","kinds"] []
 z_len:mg "len"=none
 z_range:mg "range"=none
 z_isinstance:mg "isinstance"=none
 z_all:mg "all"=none
 z_list:mg "list"=none
 z_set:mg "set"=none
 z_sorted:mg "sorted"=none
 z_str:mg "str"=none
 z_dict:mg "dict"=none
 z_any:mg "any"=none
 z_ValueError:mg "ValueError"=none
 c_KC:∃t,mg "SMALL_LETTERS"=some (.str (Str.ofString "abcdefghijklmnopqrstuvwxyz") t)
 c_KH:∃t,mg "MOST_KINDS"=some (.int 4 t)
 c_KB:∃t,mg "MOST_IN_STRIP"=some (.int 40 t)
 c_KI:∃t,mg "MOST_WORDS"=some (.int 200 t)
 c_KE:∃t,mg "MOST_IN_LIST"=some (.int 41 t)
 bl:∀(s:Shared) (u:Value),BindsTo s a.d_law ⟨[u],[]⟩ [("_law_script",u)]
structure TL (K:PySem.W.Frag)(mg:Str→Option Value)(base:Heap)(a:Ad)(tb:Str→Addr×Addr):Prop extends Txt K mg a where
 L_in_order:LamEnv base mg a.k_KQ a.t_KQ
 cd_KQ:a.d_KQ.code=.ref a.k_KQ
 e_KQ:a.t_KQ=(tb "in_order").2
theorem lenA {P:List Value→Prop}(h:∀a,P [a]):∀us:List Value,us.length=1→P us
 | [a],_=>h a
local macro_rules | `(tactic| walk_at "b1") => `(tactic| (intro _ _ _ _ _ _; refine lenA ?_; intros; rfl))
theorem lenB {P:List Value→Prop}(h:∀a b,P [a,b]):∀us:List Value,us.length=2→P us
 | [a,b],_=>h a b
local macro_rules | `(tactic| walk_at "b2") => `(tactic| (intro _ _ _ _ _ _; refine lenB ?_; intros; rfl))
theorem lenC {P:List Value→Prop}(h:∀a b c,P [a,b,c]):∀us:List Value,us.length=3→P us
 | [a,b,c],_=>h a b c
local macro_rules | `(tactic| walk_at "b3") => `(tactic| (intro _ _ _ _ _ _; refine lenC ?_; intros; rfl))
theorem lenD {P:List Value→Prop}(h:∀a b c d,P [a,b,c,d]):∀us:List Value,us.length=4→P us
 | [a,b,c,d],_=>h a b c d
local macro_rules | `(tactic| walk_at "b4") => `(tactic| (intro _ _ _ _ _ _; refine lenD ?_; intros; rfl))
theorem txt_mk {K:PySem.W.Frag}{h:Heap}{mg:Str→Option Value}(X:K.In h)(G:h.Ns mainGlobals mg){g_KL:Addr}{e_KL:FuncData}{g_KA:Addr}{e_KA:FuncData}{g_KG:Addr}{e_KG:FuncData}{g_KF:Addr}{e_KF:FuncData}{g_KD:Addr}{e_KD:FuncData}{g_KJ:Addr}{e_KJ:FuncData}{c_LB:Addr}{c_K3:Addr}{f_KP:Addr}{d_KP:FuncData}{f_KR:Addr}{d_KR:FuncData}{f_KV:Addr}{d_KV:FuncData}{f_KK:Addr}{d_KK:FuncData}{f_KN:Addr}{d_KN:FuncData}{f_KQ:Addr}{d_KQ:FuncData}{f_K2:Addr}{d_K2:FuncData}{f_K4:Addr}{d_K4:FuncData}{f_KM:Addr}{d_KM:FuncData}{f_KZ:Addr}{d_KZ:FuncData}{f_KT:Addr}{d_KT:FuncData}{f_LA:Addr}{d_LA:FuncData}{f_K0:Addr}{d_K0:FuncData}{f_LC:Addr}{d_LC:FuncData}{f_K6:Addr}{d_K6:FuncData}{f_KW:Addr}{d_KW:FuncData}{f_KY:Addr}{d_KY:FuncData}{f_KU:Addr}{d_KU:FuncData}{f_K7:Addr}{d_K7:FuncData}{f_K9:Addr}{d_K9:FuncData}{f_K1:Addr}{d_K1:FuncData}{f_K5:Addr}{d_K5:FuncData}{f_K8:Addr}{d_K8:FuncData}{f_KO:Addr}{d_KO:FuncData}{f_KX:Addr}{d_KX:FuncData}{f_KS:Addr}{d_KS:FuncData}{f_law:Addr}{d_law:FuncData}{tk_KC:Tok}{tk_KH:Tok}{tk_KB:Tok}{tk_KI:Tok}{tk_KE:Tok}{t_KQ k_KQ:Addr}
  (ow_hn:PySem.W.specialIn K (.builtin "object.__class__") "__get__"=some (some (.builtin "getset_descriptor.__get__")))
  (ow_tk:PySem.W.takesIn K (.builtin "object.__class__")=some true)
  (a_LB:PySem.W.nsIn K mainGlobals "Band"=some (some (.ref c_LB)))
  (pg_LB:PySem.W.plainGet K c_LB Str.empty=true)
  (hd_LB:PySem.W.hasDictIn K c_LB=true)
  (po_LB:PySem.W.plainOver K c_LB=true)
  (sa_LB:PySem.W.findIn K (.ref c_LB) "__setattr__"=some (some (.builtin "object.__setattr__")))
  (rs_LB:PySem.W.specialIn K (.ref c_LB) "__getattribute__"=some (some (.builtin "type.__getattribute__")))
  (rr_LB:PySem.W.readsIn K c_LB (.type "type")=true)
  (rf_LB:PySem.W.findCls K (.ref c_LB) (.type "type") "__init__"=some (.val (.ref g_KL)))
  (a_K3:PySem.W.nsIn K mainGlobals "Plain"=some (some (.ref c_K3)))
  (pg_K3:PySem.W.plainGet K c_K3 Str.empty=true)
  (hd_K3:PySem.W.hasDictIn K c_K3=true)
  (po_K3:PySem.W.plainOver K c_K3=true)
  (sa_K3:PySem.W.findIn K (.ref c_K3) "__setattr__"=some (some (.builtin "object.__setattr__")))
  (rs_K3:PySem.W.specialIn K (.ref c_K3) "__getattribute__"=some (some (.builtin "type.__getattribute__")))
  (rr_K3:PySem.W.readsIn K c_K3 (.type "type")=true)
  (rf_K3:PySem.W.findCls K (.ref c_K3) (.type "type") "__init__"=some (.val (.ref g_KJ)))
  (mk_K3:PySem.W.makesIn K c_K3=true)
  (in_K3:PySem.W.findIn K (.ref c_K3) "__init__"=some (some (.ref g_KJ)))
  (kc_K3:PySem.W.keepIn K (.ref c_K3)=true)
  (ha_K3:PySem.W.findIn K (.ref c_K3) "__class__"=some (some (.builtin "object.__class__")))
  (mo_K3:PySem.W.mroIn K c_K3 (.type "object")=some true)
  (me_Plain_words:PySem.W.findIn K (.ref c_K3) "words"=some (some (.ref g_KG)))
  (me_Plain_laid_out:PySem.W.findIn K (.ref c_K3) "laid_out"=some (some (.ref g_KA)))
  (me_Plain_reach:PySem.W.findIn K (.ref c_K3) "reach"=some (some (.ref g_KF)))
  (me_Plain_lacking:PySem.W.findIn K (.ref c_K3) "lacking"=some (some (.ref g_KD)))
  (n_Plain_own_text:PySem.W.findIn K (.ref c_K3) "own_text"=some none)
  (n_Plain_own_kinds:PySem.W.findIn K (.ref c_K3) "own_kinds"=some none)
  (F_Band_init:MG K "__init__" "Band.__init__" s_KL g_KL e_KL)
  (F_Band_laid_out:MG K "laid_out" "Band.laid_out" s_KA g_KA e_KA)
  (F_Band_words:MG K "words" "Band.words" s_KG g_KG e_KG)
  (F_Band_reach:MG K "reach" "Band.reach" s_KF g_KF e_KF)
  (F_Band_lacking:MG K "lacking" "Band.lacking" s_KD g_KD e_KD)
  (F_Plain_init:MG K "__init__" "Plain.__init__" s_KJ g_KJ e_KJ)
  (D_has_only:DG K "has_only" s_KP f_KP d_KP)
  (D_is_kinds:DG K "is_kinds" s_KR f_KR d_KR)
  (D_is_word:DG K "is_word" s_KV f_KV d_KV)
  (D_need_kinds:DG K "need_kinds" s_KK f_KK d_KK)
  (D_need_word:DG K "need_word" s_KN f_KN d_KN)
  (D_in_order:DG K "in_order" s_KQ f_KQ d_KQ)
  (D_pieces:DG K "pieces" s_K2 f_K2 d_K2)
  (D_among:DG K "lacking_among" s_K4 f_K4 d_K4)
  (D_need_list:DG K "need_list" s_KM f_KM d_KM)
  (D_avoids:DG K "avoids" s_KZ f_KZ d_KZ)
  (D_r_inside:DG K "refuse_inside" s_KT f_KT d_KT)
  (D_stems:DG K "stems_of" s_LA f_LA d_LA)
  (D_ending:DG K "ending_stem" s_K0 f_K0 d_K0)
  (D_ways:DG K "ways_between" s_LC f_LC d_LC)
  (D_ended:DG K "stems_that_end" s_K6 f_K6 d_K6)
  (D_longest:DG K "longest_word" s_KW f_KW d_KW)
  (D_r_split:DG K "refuse_split" s_KY f_KY d_KY)
  (D_strip_of:DG K "strip_of" s_KU f_KU d_KU)
  (D_lcell:DG K "_law_cell_at" s_K7 f_K7 d_K7)
  (D_mixed:DG K "_law_mixed" s_K9 f_K9 d_K9)
  (D_lkinds:DG K "_law_kinds" s_K1 f_K1 d_K1)
  (D_drawn:DG K "_law_drawn" s_K5 f_K5 d_K5)
  (D_ltext:DG K "_law_text" s_K8 f_K8 d_K8)
  (D_stretches:DG K "_law_stretches" s_KO f_KO d_KO)
  (D_missing:DG K "_law_missing" s_KX f_KX d_KX)
  (D_mixed_up:DG K "_law_mixed_up" s_KS f_KS d_KS)
  (D_law:DG K "law" Zjw f_law d_law)
  (z_len:PySem.W.nsIn K mainGlobals "len"=some none)
  (z_range:PySem.W.nsIn K mainGlobals "range"=some none)
  (z_isinstance:PySem.W.nsIn K mainGlobals "isinstance"=some none)
  (z_all:PySem.W.nsIn K mainGlobals "all"=some none)
  (z_list:PySem.W.nsIn K mainGlobals "list"=some none)
  (z_set:PySem.W.nsIn K mainGlobals "set"=some none)
  (z_sorted:PySem.W.nsIn K mainGlobals "sorted"=some none)
  (z_str:PySem.W.nsIn K mainGlobals "str"=some none)
  (z_dict:PySem.W.nsIn K mainGlobals "dict"=some none)
  (z_any:PySem.W.nsIn K mainGlobals "any"=some none)
  (z_ValueError:PySem.W.nsIn K mainGlobals "ValueError"=some none)
  (c_KC:PySem.W.nsIn K mainGlobals "SMALL_LETTERS"=some (some (.str (Str.ofString "abcdefghijklmnopqrstuvwxyz") tk_KC)))
  (c_KH:PySem.W.nsIn K mainGlobals "MOST_KINDS"=some (some (.int 4 tk_KH)))
  (c_KB:PySem.W.nsIn K mainGlobals "MOST_IN_STRIP"=some (some (.int 40 tk_KB)))
  (c_KI:PySem.W.nsIn K mainGlobals "MOST_WORDS"=some (some (.int 200 tk_KI)))
  (c_KE:PySem.W.nsIn K mainGlobals "MOST_IN_LIST"=some (some (.int 41 tk_KE))):∃a,Txt K mg a∧a.t_KQ=t_KQ∧a.k_KQ=k_KQ:=by
 obtain⟨_,_,_,_,_,_,_,_,_,rfl,_⟩:=id D_law.2.ex
 refine⟨{ c_LB,c_K3,g_KL,e_KL,g_KA,e_KA,g_KG,e_KG,g_KF,e_KF,g_KD,e_KD,g_KJ,e_KJ,f_KP,d_KP,f_KR,d_KR,f_KV,d_KV,f_KK,d_KK,f_KN,d_KN,f_KQ,d_KQ,f_K2,d_K2,f_K4,d_K4,f_KM,d_KM,f_KZ,d_KZ,f_KT,d_KT,f_LA,d_LA,f_K0,d_K0,f_LC,d_LC,f_K6,d_K6,f_KW,d_KW,f_KY,d_KY,f_KU,d_KU,f_K7,d_K7,f_K9,d_K9,f_K1,d_K1,f_K5,d_K5,f_K8,d_K8,f_KO,d_KO,f_KX,d_KX,f_KS,d_KS,f_law,t_KQ,k_KQ,d_law:=_ },{ m_KP:=PySem.W.mg_of X G D_has_only.1,f_KP:=D_has_only.2,b_KP:=D_has_only.2.binds (by walk_at "b2"),m_KR:=PySem.W.mg_of X G D_is_kinds.1,f_KR:=D_is_kinds.2,b_KR:=D_is_kinds.2.binds (by walk_at "b1"),m_KV:=PySem.W.mg_of X G D_is_word.1,f_KV:=D_is_word.2,b_KV:=D_is_word.2.binds (by walk_at "b3"),m_KK:=PySem.W.mg_of X G D_need_kinds.1,f_KK:=D_need_kinds.2,b_KK:=D_need_kinds.2.binds (by walk_at "b1"),m_KN:=PySem.W.mg_of X G D_need_word.1,f_KN:=D_need_word.2,b_KN:=D_need_word.2.binds (by walk_at "b3"),m_KQ:=PySem.W.mg_of X G D_in_order.1,f_KQ:=D_in_order.2,b_KQ:=D_in_order.2.binds (by walk_at "b1"),m_K2:=PySem.W.mg_of X G D_pieces.1,f_K2:=D_pieces.2,b_K2:=D_pieces.2.binds (by walk_at "b2"),m_K4:=PySem.W.mg_of X G D_among.1,f_K4:=D_among.2,b_K4:=D_among.2.binds (by walk_at "b3"),m_KM:=PySem.W.mg_of X G D_need_list.1,f_KM:=D_need_list.2,b_KM:=D_need_list.2.binds (by walk_at "b2"),m_KZ:=PySem.W.mg_of X G D_avoids.1,f_KZ:=D_avoids.2,b_KZ:=D_avoids.2.binds (by walk_at "b2"),m_KT:=PySem.W.mg_of X G D_r_inside.1,f_KT:=D_r_inside.2,b_KT:=D_r_inside.2.binds (by walk_at "b1"),m_LA:=PySem.W.mg_of X G D_stems.1,f_LA:=D_stems.2,b_LA:=D_stems.2.binds (by walk_at "b1"),m_K0:=PySem.W.mg_of X G D_ending.1,f_K0:=D_ending.2,b_K0:=D_ending.2.binds (by walk_at "b2"),m_LC:=PySem.W.mg_of X G D_ways.1,f_LC:=D_ways.2,b_LC:=D_ways.2.binds (by walk_at "b2"),m_K6:=PySem.W.mg_of X G D_ended.1,f_K6:=D_ended.2,b_K6:=D_ended.2.binds (by walk_at "b1"),m_KW:=PySem.W.mg_of X G D_longest.1,f_KW:=D_longest.2,b_KW:=D_longest.2.binds (by walk_at "b2"),m_KY:=PySem.W.mg_of X G D_r_split.1,f_KY:=D_r_split.2,b_KY:=D_r_split.2.binds (by walk_at "b3"),m_KU:=PySem.W.mg_of X G D_strip_of.1,f_KU:=D_strip_of.2,b_KU:=D_strip_of.2.binds (by walk_at "b2"),m_K7:=PySem.W.mg_of X G D_lcell.1,f_K7:=D_lcell.2,b_K7:=D_lcell.2.binds (by walk_at "b2"),m_K9:=PySem.W.mg_of X G D_mixed.1,f_K9:=D_mixed.2,b_K9:=D_mixed.2.binds (by walk_at "b2"),m_K1:=PySem.W.mg_of X G D_lkinds.1,f_K1:=D_lkinds.2,b_K1:=D_lkinds.2.binds (by walk_at "b1"),m_K5:=PySem.W.mg_of X G D_drawn.1,f_K5:=D_drawn.2,b_K5:=D_drawn.2.binds (by walk_at "b4"),m_K8:=PySem.W.mg_of X G D_ltext.1,f_K8:=D_ltext.2,b_K8:=D_ltext.2.binds (by walk_at "b4"),m_KO:=PySem.W.mg_of X G D_stretches.1,f_KO:=D_stretches.2,b_KO:=D_stretches.2.binds (by walk_at "b1"),m_KX:=PySem.W.mg_of X G D_missing.1,f_KX:=D_missing.2,b_KX:=D_missing.2.binds (by walk_at "b2"),m_KS:=PySem.W.mg_of X G D_mixed_up.1,f_KS:=D_mixed_up.2,b_KS:=D_mixed_up.2.binds (by walk_at "b2"),m_law:=PySem.W.mg_of X G D_law.1,f_law:=D_law.2,b_law:=D_law.2.binds (by walk_at "b1"),m_LB:=PySem.W.mg_of X G a_LB,cr_LB:=⟨rs_LB,rr_LB,rf_LB,rfl⟩,cl_LB:=⟨pg_LB,hd_LB,po_LB,sa_LB⟩,m_K3:=PySem.W.mg_of X G a_K3,cr_K3:=⟨rs_K3,rr_K3,rf_K3,rfl⟩,cl_K3:=⟨pg_K3,hd_K3,po_K3,sa_K3⟩,mk_K3:=⟨mk_K3,in_K3,F_Plain_init.2,kc_K3⟩,me_Plain_words:=⟨me_Plain_words,F_Band_words.2,F_Band_words.1.kp⟩,me_Plain_laid_out:=⟨me_Plain_laid_out,F_Band_laid_out.2,F_Band_laid_out.1.kp⟩,me_Plain_reach:=⟨me_Plain_reach,F_Band_reach.2,F_Band_reach.1.kp⟩,me_Plain_lacking:=⟨me_Plain_lacking,F_Band_lacking.2,F_Band_lacking.1.kp⟩,n_Plain_own_text,n_Plain_own_kinds,ty_K3:=fun e=>.ins e ⟨pg_K3,hd_K3,po_K3,sa_K3⟩ ha_K3 ow_hn ow_tk mo_K3,fm_KL:=F_Band_init.1,kp_KL:=F_Band_init.1.kp,b_KL:=F_Band_init.1.binds (by walk_at "b3"),fm_KA:=F_Band_laid_out.1,kp_KA:=F_Band_laid_out.1.kp,b_KA:=F_Band_laid_out.1.binds (by walk_at "b2"),fm_KG:=F_Band_words.1,kp_KG:=F_Band_words.1.kp,b_KG:=F_Band_words.1.binds (by walk_at "b2"),fm_KF:=F_Band_reach.1,kp_KF:=F_Band_reach.1.kp,b_KF:=F_Band_reach.1.binds (by walk_at "b1"),fm_KD:=F_Band_lacking.1,kp_KD:=F_Band_lacking.1.kp,b_KD:=F_Band_lacking.1.binds (by walk_at "b1"),fm_KJ:=F_Plain_init.1,kp_KJ:=F_Plain_init.1.kp,b_KJ:=F_Plain_init.1.binds (by walk_at "b3"),z_len:=PySem.W.mg_none_of X G z_len,z_range:=PySem.W.mg_none_of X G z_range,z_isinstance:=PySem.W.mg_none_of X G z_isinstance,z_all:=PySem.W.mg_none_of X G z_all,z_list:=PySem.W.mg_none_of X G z_list,z_set:=PySem.W.mg_none_of X G z_set,z_sorted:=PySem.W.mg_none_of X G z_sorted,z_str:=PySem.W.mg_none_of X G z_str,z_dict:=PySem.W.mg_none_of X G z_dict,z_any:=PySem.W.mg_none_of X G z_any,z_ValueError:=PySem.W.mg_none_of X G z_ValueError,c_KC:=⟨_,PySem.W.mg_of X G c_KC⟩,c_KH:=⟨_,PySem.W.mg_of X G c_KH⟩,c_KB:=⟨_,PySem.W.mg_of X G c_KB⟩,c_KI:=⟨_,PySem.W.mg_of X G c_KI⟩,c_KE:=⟨_,PySem.W.mg_of X G c_KE⟩,bl:=fun s u=>.of_eq rfl },rfl,rfl⟩
end Pk63
namespace Pk63
open PySem L2
def lpos:Pos:=⟨65,29,65,59⟩
def lq:Str:="in_order.<locals>.<lambda>"
def LET:List Nat:=[97,98,99,100,101,102,103,104,105,106,107,108,109,110,111,112,113,114,115,116,117,118,119,120,121,122]
def isk (l:List Nat):Bool:=decide (1≤l.length)&&decide (l.length≤4)&&(l.all fun c=>LET.contains c)&&decide (signs l=Zbn (ddl (signs l)))
def isw (l m:List Nat)(most:Int):Bool:=decide ((l.length:Int)≤most)&&l.all fun c=>m.contains c
def Zdk:List Nat→List Nat→Bool
 | _,[]=>true
 | last,c::r=>decide (c∈LET)&&decide (last < [c])&&Zdk [c] r
def Zfm (l:List Nat):Bool:=decide (1≤l.length)&&decide (l.length≤4)&&Zdk [] l
theorem Zg5 {a b:Nat}:([a] < [b])↔a<b:=by
 constructor
 ·intro h;cases h with
  | rel h=>exact h
  | cons h=>cases h
 ·exact fun h=>List.Lex.rel h
theorem Zfn:∀(l:List Nat) (d:Nat),Zdk [d] l=true↔(∀c∈l,c∈LET)∧(d::l).Pairwise (· < ·)
 | [],d=>by simp[Zdk]
 | c::r,d=>by
  rw[Zdk,Bool.and_eq_true,Bool.and_eq_true,decide_eq_true_iff,decide_eq_true_iff,Zg5,Zfn r c]
  simp only[List.pairwise_cons,List.mem_cons,forall_eq_or_imp]
  constructor
  ·rintro⟨⟨h1,h2⟩,h3,h4,h5⟩
   exact⟨⟨h1,h3⟩,⟨h2,fun x hx=>Nat.lt_trans h2 (h4 x hx)⟩,h4,h5⟩
  ·rintro⟨⟨h1,h3⟩,⟨h2,_⟩,h4,h5⟩
   exact⟨⟨h1,h2⟩,h3,h4,h5⟩
theorem Zck (l:List Nat):Zdk [] l=true↔(∀c∈l,c∈LET)∧l.Pairwise (· < ·):=by
 cases l with
 | nil=>simp[Zdk]
 | cons c r=>
  rw[Zdk,Bool.and_eq_true,Bool.and_eq_true,decide_eq_true_iff,decide_eq_true_iff,Zfn r c]
  simp only[List.mem_cons,forall_eq_or_imp]
  constructor
  ·rintro⟨⟨h1,_⟩,h3,h4⟩;exact⟨⟨h1,h3⟩,h4⟩
  ·rintro⟨⟨h1,h3⟩,h4⟩;exact⟨⟨h1,by simp⟩,h3,h4⟩
theorem Zdc:∀(ls acc:List (List Nat)),(acc++ls).Nodup→ls.foldl addT acc=acc++ls
 | [],acc,_=>by simp
 | x::ls,acc,h=>by
  have hx:¬x∈acc:=by
   rw[List.nodup_append]at h
   exact fun hm=>h.2.2 x hm x List.mem_cons_self rfl
  rw[List.foldl_cons,addT,if_neg hx,Zdc ls (acc++[x]) (by simpa using h)]
  simp
theorem ZeR {l:List Nat}(h:l.Pairwise (· < ·)):(signs l).Nodup:=by
 unfold signs List.Nodup
 rw[List.pairwise_map]
 exact h.imp fun hab e=>by injection e with e;omega
theorem ZhE (ls:List (List Nat)):(ddl ls).Nodup:=by rw[←Zfa];exact Zcg _
theorem Zc3 (l:List Nat):signs l=Zbn (ddl (signs l))↔l.Pairwise (· < ·):=by
 constructor
 ·intro e
  have h1:(signs l).Pairwise (fun a b=>leT a b=true):=by rw[e];exact Zba _
  have h2:(signs l).Nodup:=by rw[e];exact(ZaK _).nodup_iff.mpr (ZhE _)
  unfold signs at h1
  unfold signs List.Nodup at h2
  rw[List.pairwise_map]at h1 h2
  refine(h1.and h2).imp ?_
  rintro a b ⟨x,y⟩
  have y':a≠b:=fun e=>y (by rw[e])
  have x':¬([b] < [a]):=by simpa [leT] using x
  rw[Zg5]at x'
  omega
 ·intro h
  have e:ddl (signs l)=signs l:=by unfold ddl;rw[Zdc _ _ (by simpa using ZeR h)];simp
  rw[e]
  refine Zbw (List.Perm.refl _) ?_
  unfold signs
  rw[List.pairwise_map]
  refine h.imp fun {a b} hab=>?_
  have:¬([b] < [a]):=by rw[Zg5];omega
  simpa [leT] using this
theorem Zek (l:List Nat):isk l=Zfm l:=by
 have h1:(l.all fun c=>LET.contains c)=decide (∀c∈l,c∈LET):=by
  rw[Bool.eq_iff_iff,List.all_eq_true,decide_eq_true_iff]
  simp
 have h2:decide (signs l=Zbn (ddl (signs l)))=decide (l.Pairwise (· < ·)):=by rw[Bool.eq_iff_iff,decide_eq_true_iff,decide_eq_true_iff,Zc3]
 have h3:Zdk [] l=(decide (∀c∈l,c∈LET)&&decide (l.Pairwise (· < ·))):=by rw[Bool.eq_iff_iff,Bool.and_eq_true,decide_eq_true_iff,decide_eq_true_iff,Zck]
 unfold isk Zfm
 rw[h1,h2,h3,Bool.and_assoc]
theorem all_range (l m:List Nat):((List.range l.length).map (fun i=>decide (l.getD i 0∈m))).all id=l.all fun c=>m.contains c:=by
 rw[Bool.eq_iff_iff,List.all_eq_true,List.all_eq_true]
 constructor
 ·intro h c hc
  obtain⟨i,hi,rfl⟩:=List.mem_iff_getElem.mp hc
  have:=h _ (List.mem_map_of_mem (List.mem_range.mpr hi))
  simpa [List.getD_eq_getElem?_getD,List.getElem?_eq_getElem hi] using this
 ·intro h b hb
  obtain⟨i,hi,rfl⟩:=List.mem_map.mp hb
  have hi:=List.mem_range.mp hi
  have:=h _ (List.getElem_mem hi)
  simpa [List.getD_eq_getElem?_getD,List.getElem?_eq_getElem hi] using this
def cell (ns:List Int)(k:Int):Int:=ns.getD k.toNat 0
theorem Zkd {ns:List Int}{k:Int}(h0:0≤k)(h1:k<ns.length):atI (ns.map V.int) k=some (.int (cell ns k)):=by
 have hk:k.toNat<ns.length:=by omega
 unfold atI ixN cell
 rw[List.length_map,if_pos h0,if_pos h1,Option.bind_some,List.getElem?_map,List.getD_eq_getElem?_getD,List.getElem?_eq_getElem hk]
 rfl
theorem ZbV {K:PySem.W.Frag}{H:Hp}{l:List Nat}(h:l.length≤1000):LenV K (tx l) H l.length:=by
 have e:(⟨l.toArray⟩:Str).length=l.length:=by simp[Str.length]
 have:l.length≤sizeLine:=Nat.le_trans h (by rw[sizeLine_eq];decide)
 exact⟨by rw[e];exact this,e.symm⟩
theorem cm {x y m:Int}(h:0<m)(h2:m≤2 ^ 64):CMul (x % m) y:=.inl ⟨by have:=Int.emod_nonneg x (show m≠0 by omega);omega,by have:=Int.emod_lt_of_pos x h;omega⟩
theorem ZfH {K:PySem.W.Frag}{t:Value}:PySem.W.kitOne K t t=some true:=by unfold PySem.W.kitOne;simp
theorem Zi7 {α:Type}{xs:List α}{i:Int}(h0:0≤i)(h1:i<xs.length):∃v,atI xs i=some v∧v∈xs:=by
 have hi:i.toNat<xs.length:=by omega
 refine⟨xs[i.toNat],?_,List.getElem_mem hi⟩
 unfold atI ixN
 rw[if_pos h0,if_pos h1,Option.bind_some,List.getElem?_eq_getElem hi]
theorem Za9 (xs:List (List Nat)):(xs.map tx).all Zbg=true:=by
 rw[List.all_eq_true]
 intro v hv
 obtain⟨x,_,rfl⟩:=List.mem_map.mp hv
 rfl
theorem same_upd3 {H H2:Hp}{e:Addr}{o':HO}(s:Same H H2)(h:H e=none):Same H (upd H2 e o'):=fun b u hb=>by
 have:b≠e:=fun z=>by rw[z,h]at hb;cases hb
 rw[Zab this];exact s _ _ hb
theorem ZjW {ls:List (List Nat)}{k:Nat}(h:k<ls.length):(ls.map tx).getD k V.non=tx (ls.getD k []):=by
 rw[List.getD_eq_getElem?_getD,List.getElem?_map,List.getD_eq_getElem?_getD,List.getElem?_eq_getElem h]
 rfl
theorem Zhr {x:List Nat}{ls:List (List Nat)}:inV (tx x) (ls.map tx)=decide (x∈ls):=by
 unfold inV
 rw[Bool.eq_iff_iff,List.any_eq_true,decide_eq_true_iff]
 constructor
 ·rintro⟨y,hy,e⟩
  obtain⟨l,hl,rfl⟩:=List.mem_map.mp hy
  rw[ZiX,decide_eq_true_iff,Zc0]at e
  rw[←e];exact hl
 ·intro h
  exact⟨tx x,List.mem_map_of_mem h,by rw[ZiX];exact decide_eq_true rfl⟩
theorem Ze7:∀(xs ys:List (List Nat)),deqs ((xs.map tx).map DT.f) ((ys.map tx).map DT.f)=decide (xs=ys)
 | [],[]=>by unfold deqs;rfl
 | [],y::ys=>by simp only[List.map_cons,List.map_nil];unfold deqs;rfl
 | x::xs,[]=>by simp only[List.map_cons,List.map_nil];unfold deqs;rfl
 | x::xs,y::ys=>by
  simp only[List.map_cons]
  unfold deqs
  rw[Ze7 xs ys]
  have e:deq (DT.f (tx x)) (DT.f (tx y))=decide (x=y):=by
   unfold deq
   rw[←Zeu]
   show ((⟨x.toArray⟩:Str) == ⟨y.toArray⟩)=_
   rw[Bool.eq_iff_iff,beq_iff_eq,decide_eq_true_iff]
   exact⟨fun h=>by unfold tx;rw[h],fun h=>by unfold tx at h;injection h⟩
  rw[e,Bool.eq_iff_iff,Bool.and_eq_true,decide_eq_true_iff,decide_eq_true_iff,decide_eq_true_iff,List.cons.injEq]
theorem Zlb {K:PySem.W.Frag}{H:Hp}{Q:VK}{a b:Addr}{xs:List (List Nat)}(h1:SqL K H a (xs.map tx))(h2:SqL K H b (xs.map tx))(q:Q (.bl false) H):rEqD K true (.ref a) (.ref b) H Q:=
 .inr ⟨_,_,datL h1 (Za9 _),datL h2 (Za9 _),fun z=>Bool.false_ne_true z.1,(ownL h1 (Za9 _)).2.2,by
  unfold deq
  rw[Ze7,decide_eq_true rfl]
  exact q⟩
theorem ZlF {K:PySem.W.Frag}{H:Hp}{Q:VK}{a b:Addr}{xs ys:List (List Nat)}(h1:SqL K H a (xs.map tx))(h2:SqL K H b (ys.map tx))(q:Q (.bl (decide (xs=ys))) H):rEqD K false (.ref a) (.ref b) H Q:=
 .inr ⟨_,_,datL h1 (Za9 _),datL h2 (Za9 _),fun z=>Bool.false_ne_true z.1,(ownL h1 (Za9 _)).2.2,by
  unfold deq
  rw[Ze7]
  exact q⟩
theorem ZjM:V.str (Str.ofString "abcdefghijklmnopqrstuvwxyz")=tx LET:=congrArg V.str (by decide +kernel)
theorem Zj2 (l:List Nat):(ddl (signs l)).length≤l.length:=by
 have:∀(ls acc:List (List Nat)),(ls.foldl addT acc).length≤acc.length+ls.length:=by
  intro ls
  induction ls with
  | nil=>intro acc;simp
  | cons x ls ih=>
   intro acc
   rw[List.foldl_cons]
   refine Nat.le_trans (ih _) ?_
   unfold addT
   split<;>simp<;>omega
 have h:=this (signs l) []
 unfold ddl
 unfold signs at h ⊢
 simpa using h
theorem signs_length (l:List Nat):(signs l).length=l.length:=by unfold signs;rw[List.length_map]
def flds (l m:List Nat):List (Str×V):=putF "own_kinds" (tx m) (putF "own_text" (tx l) [])
theorem kt:¬(("own_text":Str)="own_kinds"):=by decide +kernel
theorem Zeo {l m:List Nat}:(flds l m).lookup ("own_text":Str)=some (tx l):=by unfold flds;rw[ZaR,if_neg kt,ZaR,if_pos rfl]
theorem Zgp {l m:List Nat}:(flds l m).lookup ("own_kinds":Str)=some (tx m):=by unfold flds;rw[ZaR,if_pos rfl]
theorem ZcH {l m:List Nat} {x:Str} (h1:¬x="own_text") (h2:¬x="own_kinds"):(flds l m).lookup x=none:=by
 unfold flds
 rw[ZaR,if_neg h2,ZaR,if_neg h1]
 rfl
def Zdh (C:Addr)(H:Hp)(p:Addr)(l m:List Nat):Prop:=∃dx,H p=some (.ins C dx (flds l m))
structure StripOk (l m:List Nat):Prop where
 k:isk m=true
 m1:1≤m.length
 m4:m.length≤4
 l40:l.length≤40
 mem:∀x∈l,x∈m
theorem Znr (ls:List (List Nat)):(ddl ls).length≤ls.length:=by
 have:∀(ls acc:List (List Nat)),(ls.foldl addT acc).length≤acc.length+ls.length:=by
  intro ls
  induction ls with
  | nil=>intro acc;simp
  | cons x ls ih=>
   intro acc
   rw[List.foldl_cons]
   refine Nat.le_trans (ih _) ?_
   unfold addT
   split<;>simp<;>omega
 simpa [ddl] using this ls []
theorem Zlp {l m:List Nat}(h:StripOk l m):isw l m 40=true:=by
 have h2:=h.l40
 unfold isw
 rw[Bool.and_eq_true,decide_eq_true_iff,List.all_eq_true]
 exact⟨by omega,fun x hx=>by simpa using h.mem x hx⟩
theorem Zlq {m:List Nat}(h1:1≤m.length)(h4:m.length≤4)(hm:∀c∈m,c∈LET)(hp:m.Pairwise (· < ·)):isk m=true:=by
 rw[Zek]
 unfold Zfm
 rw[(Zck m).mpr ⟨hm,hp⟩]
 simp[h1,h4]
theorem ZlJ (l:List Nat){i:Int}(h:0≤i):cut l none (some i)=l.take i.toNat:=by
 obtain⟨k,rfl⟩:∃k:Nat,i=(k:Int):=⟨i.toNat,by omega⟩
 rw[Zi2,Int.toNat_natCast]
theorem Zj6 (l:List Nat){i:Int}(h:0≤i):cut l (some i) none=l.drop i.toNat:=by
 obtain⟨k,rfl⟩:∃k:Nat,i=(k:Int):=⟨i.toNat,by omega⟩
 rw[Zb1,Int.toNat_natCast]
theorem iteT' {p q:Prop}[Decidable True](h:p):if True then p else q:=by rw[if_pos True.intro];exact h
theorem Zh1 (l:List Nat)(n:Int):(repT l n).length=n.toNat*l.length:=by unfold repT;simp
theorem Zh0 {l:List Nat}{n:Int}{x:Nat}(h:x∈repT l n):x∈l:=by
 unfold repT at h
 obtain⟨y,hy,hx⟩:=List.mem_flatten.mp h
 rw[(List.mem_replicate.mp hy).2]at hx
 exact hx
theorem Znh {K:PySem.W.Frag}{H:Hp}{Q:VK}{x:List Nat}(h:Q (.bl false) H):rEqD K true (tx x) (tx x) H Q:=.inl ⟨rfl,by rw[if_pos rfl,decide_eq_true rfl];exact h⟩
theorem Znp {K:PySem.W.Frag}{H:Hp}{Q:VK}{x:List Nat}(h:Q (.bl true) H):rEqD K false (tx x) (tx x) H Q:=.inl ⟨rfl,by rw[if_neg Bool.false_ne_true,decide_eq_true rfl];exact h⟩
theorem Zj5 (w:List Nat):cut w (some 1) none=w.tail:=by
 have:=Zb1 w 1
 rw[List.drop_one]at this
 exact this
theorem Zcy {α β:Type}(f:α→β):∀(l:List α) (k:Nat),(l.map f).eraseIdx k=(l.eraseIdx k).map f
 | [],k=>by simp
 | x::l,0=>by simp
 | x::l,k+1=>by simp[Zcy f l k]
theorem Zc8 {l m:List Nat}{i:Nat}(hm:m.length≤4)(hl:l.length≤40)(hi:i≤41):(ZbW l m i).length≤6724:=by
 have h1:∀k,(ZcV (wordsOf l k) (wordsOf l (k+1)) m).length≤164:=fun k=>Nat.le_trans (Zhj _ _ _) (Nat.le_trans (Nat.mul_le_mul (Zch l k) hm) (by omega))
 have h2:=ZaZ (f:=fun k=>ZcV (wordsOf l k) (wordsOf l (k+1)) m) h1 (List.range i)
 rw[List.length_range]at h2
 have:i*164≤41*164:=Nat.mul_le_mul_right _ hi
 unfold ZbW
 omega
theorem ZdT {α:Type}{l:List α}{i:Nat}{x:α}(h:l[i]?=some x):l.take (i+1)=l.take i++[x]:=by rw[List.take_succ,h];rfl
theorem Ze0 {x:Nat}{l:List Nat}{lo hi:Option Int}(h:x∈cut l lo hi):x∈l:=List.mem_of_mem_drop (List.mem_of_mem_take h)
structure KOk (m:List Nat):Prop where
 k:isk m=true
 m1:1≤m.length
 m4:m.length≤4
theorem KOk.lets {m:List Nat}(h:KOk m):∀c∈m,97≤c∧c≤122:=by
 have h1:=h.k
 rw[Zek]at h1
 unfold Zfm at h1
 rw[Bool.and_eq_true]at h1
 intro c hc
 have:=((Zck m).mp h1.2).1 c hc
 revert this
 unfold LET
 simp only[List.mem_cons,List.not_mem_nil,or_false]
 omega
theorem ZjR {l m:List Nat}{most:Int}(h:(l.length:Int)≤most)(hm:∀x∈l,x∈m):isw l m most=true:=by
 unfold isw
 rw[Bool.and_eq_true,decide_eq_true_iff,List.all_eq_true]
 exact⟨h,fun x hx=>by simpa using hm x hx⟩
theorem Zd1 {H:Hp}{e:Addr}{o o':HO}(h:H e=none):Same H (upd (upd H e o) e o'):=fun b u hb=>by
 have:b≠e:=fun z=>by rw[z,h]at hb;cases hb
 rw[Zab this,Zab this];exact hb
theorem Zhe:∀k<26,LET.getD k 0=97+k:=by decide
theorem Zif {x:Nat}(h1:97≤x)(h2:x≤122):x∈LET:=by
 unfold LET
 simp only[List.mem_cons,List.not_mem_nil,or_false]
 omega
theorem ZfX {m:List Nat}{i:Int}(h0:0≤i)(h1:i<m.length):atI m i=some (m.getD i.toNat 0):=by
 have h:i.toNat<m.length:=by omega
 unfold atI ixN
 rw[if_pos h0,if_pos h1,Option.bind_some,List.getD_eq_getElem?_getD,List.getElem?_eq_getElem h]
 rfl
def avB (ws:List (List Nat))(w:List Nat):Bool:=!(ws.any fun p=>infB p w)
theorem ZcY {G:Prop}{T C:Int→Prop}(h1:(∀n,C n→T n)→G)(h2:∀n,C n→T n):G:=h1 h2
theorem ZjE {K:PySem.W.Frag}{H:Hp}{Q:VK}{a b:Addr}{L:List (List Nat)}(h1:SqL K H a (L.map tx))(h2:SqL K H b [])(q:Q (.bl (!L.isEmpty)) H):rEqD K true (.ref a) (.ref b) H Q:=
 .inr ⟨_,_,datL h1 (Za9 L),datL h2 rfl,fun z=>Bool.false_ne_true z.1,(ownL h1 (Za9 L)).2.2,by
  cases L with
  | nil=>exact q
  | cons x y=>exact q⟩
def ZlO (l:List Nat)(kvs:List (Key×V)):Prop:=(∀kv∈kvs,∃x:List Nat,kv.1=kTx x∧Inf x l)∧∀x:List Nat,(valV kvs (kTx x)).isSome=infB x l
def keyT (s:List Nat):List Key:=s.map fun (i:Nat)=>(Sum.inl ((i:Nat):Int):Key)
def numK (sp:List (List Nat)):List (List Key×V):=sp.zipIdx.map fun p=>(keyT p.1,V.int ((p.2:Nat):Int))
structure RInv (H:Hp)(ps pw pn:Addr)(l:List Nat)(sp ws:List (List Nat))(ts:List Addr):Prop where
 hs:H ps=some (.lst (ts.map V.ref))
 hw:H pw=some (.lst (ws.map tx))
 hn:H pn=some (.dT (numK sp))
 tl:ts.length=sp.length
 tt:∀(i:Nat) (t:Addr) (s:List Nat),ts[i]?=some t→sp[i]?=some s→H t=some (.tup (s.map fun (i:Nat)=>V.int i))
 wl:ws.length=sp.length
 wt:∀(i:Nat) (w s:List Nat),ws[i]?=some w→sp[i]?=some s→s=Zjn l w∧Inf w l
 nd:sp.Nodup
 f0:sp[0]?=some (ZiW l)
theorem ZjN:∀k<8,([97,98,99,100,101,102,103,104]:List Nat).getD k 0=97+k:=by decide
theorem ZjT {l:List Nat}{s e:Nat}(h:s≤e)(he:e≤l.length):Inf ((l.drop s).take (e-s)) l:=by
 refine⟨s,?_,?_⟩
 ·rw[List.length_take,List.length_drop];omega
 ·rw[List.length_take,List.length_drop,Nat.min_eq_left (by omega)]
theorem Zls {l x:List Nat}(h:Inf x l):∃s e,s≤e∧e≤l.length∧x=(l.drop s).take (e-s):=by
 obtain⟨i,h1,h2⟩:=h
 exact⟨i,i+x.length,by omega,h1,by rw[show i+x.length-i=x.length by omega];exact h2.symm⟩
theorem ZaI {x y:List Nat}(e:kTx x=kTx y):x=y:=by unfold kTx at e;injection e with e;injection e with e;injection e
def Sound (l:List Nat)(kvs:List (Key×V)):Prop:=∀kv∈kvs,∃x:List Nat,kv.1=kTx x∧Inf x l
theorem Sound.put {l x:List Nat}{kvs:List (Key×V)}{v:V}(h:Sound l kvs)(hx:Inf x l):Sound l (putK kvs (kTx x) v):=by
 intro kv hkv
 unfold putK at hkv
 split at hkv
 ·obtain⟨k0,h0,rfl⟩:=List.mem_map.mp hkv
  obtain⟨y,e,hy⟩:=h k0 h0
  refine⟨y,?_,hy⟩
  show (if k0.1=kTx x then (k0.1,v) else k0).1=kTx y
  split<;>exact e
 ·rcases List.mem_append.mp hkv with h1 | h1
  ·exact h kv h1
  ·rw[List.mem_singleton.mp h1];exact⟨x,rfl,hx⟩
theorem Za4 {kvs:List (Key×V)}{k k':Key}{v:V}(h:(valV kvs k').isSome=true∨k'=k):(valV (putK kvs k v) k').isSome=true:=by
 rw[ZaO]
 split
 ·rfl
 ·rcases h with h | h
  ·exact h
  ·exact absurd h (by assumption)
theorem Zih {l:List Nat}{kvs:List (Key×V)}(h1:Sound l kvs)(h0:(valV kvs (kTx [])).isSome=true)(h2:∀s e,s<l.length→s≤e→e≤l.length→(valV kvs (kTx ((l.drop s).take (e-s)))).isSome=true):ZlO l kvs:=by
 refine⟨h1,fun x=>?_⟩
 rw[Bool.eq_iff_iff,Za5]
 constructor
 ·intro h
  obtain⟨v,hv⟩:=Option.isSome_iff_exists.mp h
  obtain⟨kv,hk,ek⟩:=List.mem_map.mp (ZgB hv)
  obtain⟨y,ey,hy⟩:=h1 kv hk
  rw[←ZaI (ek.symm.trans ey)]at hy
  exact hy
 ·intro h
  obtain⟨s,e,a,b,rfl⟩:=Zls h
  by_cases c:s<l.length
  ·exact h2 s e c a b
  ·have:(l.drop s).take (e-s)=[]:=by rw[List.drop_eq_nil_of_le (by omega)];simp
   rw[this];exact h0
theorem ZbY {m:List Nat}(h:isk m=true):m.Pairwise (· < ·):=by
 unfold isk at h
 simp only[Bool.and_eq_true,decide_eq_true_iff]at h
 exact(Zc3 m).mp h.2
theorem Zdu {kvs:List (Key×V)}{k:Key}(v:V)(hn:(kvs.map (·.1)).Nodup):((putK kvs k v).map (·.1)).Nodup:=by
 cases h:valV kvs k with
 | none=>exact ZjF v hn h
 | some x=>
  have e:(putK kvs k v).map (·.1)=kvs.map (·.1):=by
   unfold putK
   rw[if_pos (by obtain⟨kv,hk,ek⟩:=List.mem_map.mp (ZgB h);exact List.any_eq_true.mpr ⟨kv,hk,decide_eq_true ek⟩),List.map_map]
   refine List.map_congr_left fun p _=>?_
   show (if p.1=k then (p.1,v) else p).1=p.1
   split<;>rfl
  rw[e];exact hn
def ZhO (l:List Nat)(kvs:List (Key×V)):Prop:=ZlO l kvs∧(kvs.map (·.1)).Nodup∧kvs.length≤3000
def SoundD (l:List Nat)(kvs:List (Key×V)):Prop:=Sound l kvs∧(kvs.map (·.1)).Nodup
theorem SoundD.put {l x:List Nat}{kvs:List (Key×V)}{v:V}(h:SoundD l kvs)(hx:Inf x l):SoundD l (putK kvs (kTx x) v):=⟨h.1.put hx,Zdu v h.2⟩
def ListOk (l m:List Nat)(ws:List (List Nat)):Prop:=ws.Perm (Za3 l m)
theorem ListOk.mem {l m:List Nat}{ws:List (List Nat)}(h:ListOk l m ws){w:List Nat}:w∈ws↔w∈Za3 l m:=h.mem_iff
theorem ListOk.nd {l m:List Nat}{ws:List (List Nat)}(h:ListOk l m ws)(ok:StripOk l m):ws.Nodup:=h.nodup_iff.mpr (Zb5 (ZbY ok.k))
theorem ListOk.len {l m:List Nat}{ws:List (List Nat)}(h:ListOk l m ws)(ok:StripOk l m):ws.length≤200:=by
 rw[h.length_eq]
 refine Nat.le_trans (Zgj (ZbY ok.k)) (Nat.le_trans (Nat.mul_le_mul ok.m4 (Nat.succ_le_succ ok.l40)) (by decide))
theorem ListOk.ne {l m:List Nat}{ws:List (List Nat)}(h:ListOk l m ws){w:List Nat}(hw:w∈ws):w≠[]:=(Zax.mp (h.mem.mp hw)).1.ne
theorem ListOk.w41 {l m:List Nat}{ws:List (List Nat)}(h:ListOk l m ws)(ok:StripOk l m){w:List Nat}(hw:w∈ws):w.length≤41:=by
 have:=(Zax.mp (h.mem.mp hw)).1.tail.len
 rw[List.length_tail]at this
 have:=ok.l40
 omega
theorem ListOk.wm {l m:List Nat}{ws:List (List Nat)}(h:ListOk l m ws)(ok:StripOk l m){w:List Nat}(hw:w∈ws):∀c∈w,c∈m:=by
 obtain⟨ms,c,hc,hl⟩:=Zax.mp (h.mem.mp hw)
 intro x hx
 have e:w=w.dropLast++[c]:=by
  obtain⟨ys,rfl⟩:=List.getLast?_eq_some_iff.mp hl
  rw[List.dropLast_concat]
 rw[e]at hx
 rcases List.mem_append.mp hx with z | z
 ·exact ok.mem x (ms.init.mem z)
 ·rw[List.mem_singleton.mp z];exact hc
theorem ListOk.av {l m:List Nat}{ws:List (List Nat)}(h:ListOk l m ws){w:List Nat}(hm:∀c∈w,c∈m):Av ws w↔Inf w l:=by
 rw[Zhi hm]
 exact⟨fun a v hv=>a v (h.mem.mpr hv),fun a v hv=>a v (h.mem.mp hv)⟩
theorem ListOk.anti {l m:List Nat}{ws:List (List Nat)}(h:ListOk l m ws):Anti ws:=fun v hv w hw hi=>Zgk (h.mem.mp hv) (h.mem.mp hw) hi
theorem ListOk.stem {l m:List Nat}{ws:List (List Nat)}(h:ListOk l m ws)(ok:StripOk l m){u:List Nat}(hu:Stem ws u):∀c∈u,c∈m:=by
 rcases hu with rfl | ⟨v,hv,k,_,rfl⟩
 ·intro c hc;cases hc
 ·exact fun c hc=>h.wm ok hv c (List.mem_of_mem_take hc)
theorem ListOk.stemAv {l m:List Nat}{ws:List (List Nat)}(h:ListOk l m ws){u:List Nat}(hu:Stem ws u):Av ws u:=Zjk h.anti (fun v hv=>h.ne hv) hu
theorem Zfg {ws:List (List Nat)}{w:List Nat}:avB ws w=true↔Av ws w:=by
 unfold avB Av
 rw[Bool.not_eq_true',List.any_eq_false]
 exact⟨fun a v hv hi=>a v hv (Za5.mpr hi),fun a v hv hi=>a v hv (Za5.mp hi)⟩
structure StemD (ws:List (List Nat))(kvs:List (Key×V)):Prop where
 key:∀kv∈kvs,∃u:List Nat,kv.1=kTx u∧Stem ws u
 has:∀u,Stem ws u→(valV kvs (kTx u)).isSome=true
 nd:(kvs.map (·.1)).Nodup
 len:kvs.length≤8201
theorem ZbL {kvs:List (Key×V)}{k:Key}(h:(valV kvs k).isSome=true):∃kv∈kvs,kv.1=k:=by
 unfold valV at h
 cases e:kvs.find? fun kv=>decide (kv.1=k) with
 | none=>rw[e]at h;cases h
 | some kv=>exact⟨kv,List.mem_of_find?_eq_some e,by simpa using List.find?_some e⟩
theorem StemD.iff {ws:List (List Nat)}{kvs:List (Key×V)}(h:StemD ws kvs)(u:List Nat):(valV kvs (kTx u)).isSome=true↔Stem ws u:=by
 constructor
 ·intro z
  obtain⟨kv,hm,e⟩:=ZbL z
  obtain⟨v,ev,hv⟩:=h.key kv hm
  rw[ZaI (e.symm.trans ev)];exact hv
 ·exact h.has u
theorem Zla {K:PySem.W.Frag}{H:Hp}{Q:VK}{x y:List Nat}(h:∀b:Bool,(b=true→x≠y)→Q (.bl b) H):rEqD K true (tx x) (tx y) H Q:=.inl ⟨rfl,by
 rw[if_pos rfl]
 exact h _ fun z e=>by rw[e]at z;simp at z⟩
noncomputable def estOf (ws:List (List Nat)) (u:List Nat):List Nat:=Classical.choose (ZfK ws u)
theorem ZbZ (ws:List (List Nat))(u:List Nat):ZdP ws u (estOf ws u):=Classical.choose_spec (ZfK ws u)
def onwC (ws:List (List Nat))(m u:List Nat):List Nat:=m.filter fun c=>avB ws (u++[c])
noncomputable def onw (ws:List (List Nat)) (m u:List Nat):List (Nat×List Nat):=(onwC ws m u).map fun c=>(c,estOf ws (u++[c]))
noncomputable def outS (ws:List (List Nat)) (m u:List Nat):List (List Nat):=(onw ws m u).map (·.2)
def wayK (x:Nat×List Nat):Key×V:=(kTx [x.1],tx x.2)
def WaysL (H:Hp)(p:Addr)(kw:List (Key×V))(ws:List (List Nat))(m:List Nat)(ss:List (List Nat)):Prop:=kw.length=ss.length∧∀(i:Nat) (u:List Nat),ss[i]?=some u→∃a,kw[i]?=some (kTx u,.ref a)∧a≠p∧H a=some (.dK ((onw ws m u).map wayK))
structure StemsL (ws ss:List (List Nat)):Prop where
 nd:ss.Nodup
 iff:∀u,u∈ss↔Stem ws u
 len:ss.length≤8201
structure EndsG (ws:List (List Nat))(m:List Nat)(ss es:List (List Nat)):Prop where
 nd:es.Nodup
 sub:∀s∈es,s∈ss
 nil:[]∈es
 ord:∀(k:Nat) (s:List Nat),es[k]?=some s→∀t∈outS ws m s,t∈es.take k
theorem WaysL.chg {H H':Hp}{p:Addr}{kw:List (Key×V)}{ws ss:List (List Nat)}{m:List Nat}(h:WaysL H p kw ws m ss)(s:∀b o,b≠p→H b=some o→H' b=some o):WaysL H' p kw ws m ss:=⟨h.1,fun i u hu=>by
 obtain⟨a,e,n,ha⟩:=h.2 i u hu
 exact⟨a,e,n,s _ _ n ha⟩⟩
theorem WaysL.same {H H':Hp}{p:Addr}{kw:List (Key×V)}{ws ss:List (List Nat)}{m:List Nat}(h:WaysL H p kw ws m ss)(s:Same H H'):WaysL H' p kw ws m ss:=h.chg fun b o _ e=>s b o e
theorem WaysL.snoc {H:Hp}{p:Addr}{kw:List (Key×V)}{ws ss:List (List Nat)}{m u:List Nat}{a:Addr}(h:WaysL H p kw ws m ss)(n:a≠p)(ha:H a=some (.dK ((onw ws m u).map wayK))):WaysL H p (kw++[(kTx u,.ref a)]) ws m (ss++[u]):=by
 refine⟨by rw[List.length_append,List.length_append,h.1,List.length_singleton,List.length_singleton],fun i v hv=>?_⟩
 by_cases c:i<ss.length
 ·rw[List.getElem?_append_left c]at hv
  rw[List.getElem?_append_left (by rw[h.1];exact c)]
  exact h.2 i v hv
 ·have il:=(List.getElem?_eq_some_iff.mp hv).1
  rw[List.length_append,List.length_singleton]at il
  have e:i=ss.length:=by omega
  subst e
  rw[List.getElem?_append_right (Nat.le_refl _),Nat.sub_self]at hv
  cases hv
  refine⟨a,?_,n,ha⟩
  rw[←h.1,List.getElem?_append_right (Nat.le_refl _),Nat.sub_self]
  rfl
theorem WaysL.keys {H:Hp}{p:Addr}{kw:List (Key×V)}{ws ss:List (List Nat)}{m:List Nat}(h:WaysL H p kw ws m ss):kw.map (·.1)=ss.map kTx:=by
 apply List.ext_getElem?
 intro i
 rw[List.getElem?_map,List.getElem?_map]
 cases e:ss[i]? with
 | none=>
  have:kw[i]?=none:=by
   rw[List.getElem?_eq_none_iff]at e ⊢
   rw[h.1];exact e
  rw[this];rfl
 | some u=>
  obtain⟨a,e1,_⟩:=h.2 i u e
  rw[e1];rfl
theorem Zk9 {α:Type}{es:List α}{n:Nat}{r:α}(nd:es.Nodup)(h:es[n]?=some r):r∉es.take n:=by
 intro hm
 obtain⟨k,hk,e⟩:=List.getElem_of_mem hm
 rw[List.length_take]at hk
 rw[List.getElem_take]at e
 obtain⟨hn,e2⟩:=List.getElem?_eq_some_iff.mp h
 have:=(List.nodup_iff_pairwise_ne.mp nd)
 rw[List.pairwise_iff_getElem]at this
 exact this k n (by omega) hn (by omega) (by rw[e,e2])
theorem ZgA {kvs:List (Key×V)}{k:Key}(h:k∉kvs.map (·.1)):valV kvs k=none:=by
 cases e:valV kvs k with
 | none=>rfl
 | some v=>
  obtain⟨kv,hm,he⟩:=ZbL (kvs:=kvs) (k:=k) (by rw[e];rfl)
  exact absurd (List.mem_map.mpr ⟨kv,hm,he⟩) h
theorem Zdw:∀(xs acc:List (Key×V)),((acc++xs).map (·.1)).Nodup→ZaD acc xs=acc++xs
 | [],acc,_=>by rw[List.append_nil];rfl
 | x::xs,acc,h=>by
  have e:acc++x::xs=(acc++[x])++xs:=by simp
  have hx:x.1∉acc.map (·.1):=by
   rw[List.map_append,List.nodup_append]at h
   exact fun hm=>h.2.2 x.1 hm x.1 (by simp) rfl
  have r:=Zdw xs (acc++[x]) (by rw[←e];exact h)
  rw[e,←r]
  show ZaD (putK acc x.1 x.2) xs=_
  rw[Zdo _ (ZgA hx)]
theorem Zg4 {ws:List (List Nat)}{m u:List Nat}(hm:m.Pairwise (· < ·)):(((onw ws m u).map wayK).map (·.1)).Nodup:=by
 unfold onw onwC
 rw[List.map_map,List.map_map]
 have:(m.filter fun c=>avB ws (u++[c])).Nodup:=(hm.imp fun h=>Nat.ne_of_lt h).filter _
 refine Zbs this ?_
 intro x _ y _ e
 have e':kTx [x]=kTx [y]:=e
 have:=ZaI e'
 simpa using this
theorem Zhy {α:Type}(P:Nat→Bool)(g:Nat→α)(l:List Nat):((List.range l.length).filter fun i=>P (l.getD i 0)).map (fun i=>g (l.getD i 0))=(l.filter P).map g:=by
 have e:l=(List.range l.length).map fun i=>l.getD i 0:=by
  apply List.ext_getElem (by simp)
  intro i h1 h2
  simp[List.getD_eq_getElem?_getD,h1]
 conv=>rhs;rw[e]
 rw[List.filter_map,List.map_map]
 rfl
theorem Zcw {ws:List (List Nat)}{i:Nat}{x:V}(h:(ws.map tx)[i]?=some x):∃y,ws[i]?=some y∧x=tx y:=by
 rw[List.getElem?_map]at h
 cases e:ws[i]? with
 | none=>rw[e]at h;cases h
 | some y=>rw[e]at h;cases h;exact⟨y,rfl,rfl⟩
structure StemP (ws:List (List Nat))(i j:Nat)(kvs:List (Key×V)):Prop where
 key:∀kv∈kvs,∃u:List Nat,kv.1=kTx u∧Stem ws u
 nil:(valV kvs (kTx [])).isSome=true
 has:∀(a:Nat) (w:List Nat),ws[a]?=some w→∀k,k<w.length→(a<i∨(a=i∧k<j))→(valV kvs (kTx (w.take k))).isSome=true
 nd:(kvs.map (·.1)).Nodup
theorem ZfE {kvs:List (Key×V)}{k:Key}{v:V}{kv:Key×V}(h:kv∈putK kvs k v):kv.1=k∨∃p∈kvs,p.1=kv.1:=by
 unfold putK at h
 split at h
 ·obtain⟨p,hp,e⟩:=List.mem_map.mp h
  split at e
  ·exact .inr ⟨p,hp,by rw[←e]⟩
  ·exact .inr ⟨p,hp,by rw[←e]⟩
 ·rcases List.mem_append.mp h with z | z
  ·exact .inr ⟨kv,z,rfl⟩
  ·rw[List.mem_singleton.mp z];exact .inl rfl
theorem StemP.start (ws:List (List Nat)):StemP ws 0 0 (ZaD [] [(kTx [],.bl true)]) where
 key:=fun kv h=>by
  rcases ZfE (kvs:=[]) h with z | ⟨p,hp,_⟩
  ·exact⟨[],z,.inl rfl⟩
  ·cases hp
 nil:=Za4 (kvs:=[]) (.inr rfl)
 has:=fun a w _ k _ h=>by rcases h with z | ⟨_,z⟩<;>omega
 nd:=Zdu (kvs:=[]) (.bl true) List.nodup_nil
theorem StemP.put {ws:List (List Nat)}{i j:Nat}{kvs:List (Key×V)}{w:List Nat}(h:StemP ws i j kvs)(hw:ws[i]?=some w)(hj:j<w.length):StemP ws i (j+1) (putK kvs (kTx (w.take j)) (.bl true)) where
 key:=fun kv hm=>by
  rcases ZfE hm with z | ⟨p,hp,e⟩
  ·exact⟨w.take j,z,.inr ⟨w,List.mem_of_getElem? hw,j,hj,rfl⟩⟩
  ·obtain⟨u,e2,hu⟩:=h.key p hp
   exact⟨u,e▸e2,hu⟩
 nil:=Za4 (.inl h.nil)
 has:=fun a v hv k hk z=>by
  by_cases c:a<i∨(a=i∧k<j)
  ·exact Za4 (.inl (h.has a v hv k hk c))
  ·have ea:a=i:=by omega
   have ek:k=j:=by omega
   subst ea ek
   rw[hw]at hv
   cases hv
   exact Za4 (.inr rfl)
 nd:=Zdu _ h.nd
theorem StemP.one {ws:List (List Nat)}{i:Nat}{kvs:List (Key×V)}{w:List Nat}(h:StemP ws i 0 kvs)(hw:ws[i]?=some w):StemP ws i (1+0) kvs:=
 ⟨h.key,h.nil,fun a v hv k hk z=>by
  by_cases c:a<i
  ·exact h.has a v hv k hk (.inl c)
  ·have ek:k=0:=by omega
   subst ek
   rw[List.take_zero];exact h.nil,h.nd⟩
theorem StemP.next {ws:List (List Nat)}{i j:Nat}{kvs:List (Key×V)}{w:List Nat}(h:StemP ws i j kvs)(hw:ws[i]?=some w)(hj:w.length≤j):StemP ws (i+1) 0 kvs:=
 ⟨h.key,h.nil,fun a v hv k hk z=>by
  refine h.has a v hv k hk ?_
  by_cases c:a<i
  ·exact .inl c
  ·have ea:a=i:=by omega
   subst ea
   rw[hw]at hv
   cases hv
   exact .inr ⟨rfl,by omega⟩,h.nd⟩
theorem StemP.done {ws:List (List Nat)}{kvs:List (Key×V)}(h:StemP ws ws.length 0 kvs)(hl:kvs.length≤8201):StemD ws kvs:=
 ⟨h.key,fun u hu=>by
  rcases hu with rfl | ⟨v,hv,k,hk,rfl⟩
  ·exact h.nil
  ·obtain⟨a,ha,e⟩:=List.getElem_of_mem hv
   exact h.has a v (List.getElem?_eq_some_iff.mpr ⟨ha,e⟩) k hk (.inl ha),h.nd,hl⟩
theorem Ze5 {α:Type}{l:List α}{k:Nat}(h:k<l.length):(l[k]::l.eraseIdx k).Perm l:=by
 rw[List.eraseIdx_eq_take_drop_succ]
 refine List.perm_middle.symm.trans ?_
 rw[←List.drop_eq_getElem_cons h,List.take_append_drop]
def SameX (p:Addr)(H H':Hp):Prop:=∀b o,b≠p→H b=some o→H' b=some o
theorem ZmH {p:Addr}{H H':Hp}(s:Same H H'):SameX p H H':=fun b o _ e=>s b o e
theorem SameX.trans {p:Addr}{H H1 H2:Hp}(s:SameX p H H1)(t:SameX p H1 H2):SameX p H H2:=fun b o n e=>t b o n (s b o n e)
theorem SameX.updX {p:Addr}{H H':Hp}{o:HO}(s:SameX p H H'):SameX p H (upd H' p o):=fun b u n e=>by rw[Zab n];exact s b u n e
theorem SameX.updN {p a:Addr}{H H':Hp}{o:HO}(s:SameX p H H')(h:H a=none):SameX p H (upd H' a o):=fun b u n e=>by rw[Zab (Zaf e h)];exact s b u n e
theorem SameX.same {p:Addr}{H H':Hp}{o:HO}(s:SameX p H H')(h:H p=some o)(h':H' p=some o):Same H H':=fun b u e=>by
 by_cases c:b=p
 ·subst c;rw[h]at e;cases e;exact h'
 ·exact s b u c e
noncomputable def edges (ws:List (List Nat)) (m:List Nat) (ss:List (List Nat)):List (List Nat×List Nat):=ss.flatMap fun s=>(outS ws m s).map fun r=>(r,s)
def srcOf (E:List (List Nat×List Nat))(r:List Nat):List (List Nat):=(E.filter fun e=>decide (e.1=r)).map (·.2)
structure SrcAt (H H':Hp)(pS pL:Addr)(kS:List (Key×V))(E:List (List Nat×List Nat)):Prop where
 no:∀r,valV kS (kTx r)=none→srcOf E r=[]
 yes:∀r v,valV kS (kTx r)=some v→∃a,v=.ref a∧H a=none∧a≠pS∧a≠pL∧H' a=some (.lst ((srcOf E r).map tx))
 inj:∀r r' a,valV kS (kTx r)=some (.ref a)→valV kS (kTx r')=some (.ref a)→r=r'
 len:kS.length≤E.length
def ZeF (kL:List (Key×V))(ss:List (List Nat))(f:List Nat→Nat):Prop:=∀s∈ss,valV kL (kTx s)=some (.int (f s:Nat))
theorem ZjZ {g:TG}{tb:TS}{D:Ends}{σ:St}{H:Hp}{o:Obj}{kvs:List (Key×V)}{a:Addr}(Pv:Nat→St→Hp→Prop)(h0:Pv 0 σ H)(hl:∀i σ H,Pv i σ H→H a=some (.frz o (.dK kvs)))
  (hs:∀i p σ H,kvs[i]?=some p→Pv i σ H→g p.2 σ H fun σ2 H2=>tb { D with nx:=Pv (i+1),ct:=Pv (i+1),bk:=D.nx } σ2 H2) (hd:∀σ H,Pv kvs.length σ H→D.nx σ H):ForRun (Itv o kvs a) g tb D σ H:=by
 refine⟨fun i m σ H=>m=kvs.length-i∧i≤kvs.length∧Pv i σ H,⟨kvs.length,by simp,Nat.zero_le _,h0⟩,?_⟩
 rintro i m σ H ⟨rfl,hi,p⟩
 have q:=hl i σ H p
 by_cases hlt:i<kvs.length
 ·refine .inr ⟨⟨q,hlt⟩,Pv (i+1),fun σ' H' p'=>⟨kvs.length-(i+1),by omega,rfl,hlt,p'⟩,fun x H' y=>?_⟩
  obtain⟨e,p2,e2,e3⟩:=y
  subst e e3
  exact hs i p2 σ _ e2 p
 ·have e:i=kvs.length:=by omega
  subst e
  exact .inl ⟨⟨q,Nat.le_refl _⟩,hd σ H p⟩
theorem Zdi:∀ {kvs:List (Key×V)} {i:Nat} {k:Key} {v:V},(kvs.map (·.1)).Nodup→kvs[i]?=some (k,v)→valV kvs k=some v
 | [],i,k,v,_,h=>by simp at h
 | p::kvs,0,k,v,_,h=>by
  cases h
  exact ZaP rfl
 | p::kvs,i+1,k,v,nd,h=>by
  rw[List.map_cons,List.nodup_cons]at nd
  have h':kvs[i]?=some (k,v):=h
  have:p.1≠k:=fun e=>nd.1 (by rw[e];exact List.mem_map.mpr ⟨_,List.mem_of_getElem? h',rfl⟩)
  rw[ZaQ this]
  exact Zdi nd.2 h'
theorem WaysL.val {H:Hp}{p:Addr}{kw:List (Key×V)}{ws ss:List (List Nat)}{m u:List Nat}(h:WaysL H p kw ws m ss)(nd:ss.Nodup)(hu:u∈ss):∃a,valV kw (kTx u)=some (.ref a)∧a≠p∧H a=some (.dK ((onw ws m u).map wayK)):=by
 obtain⟨i,hi,e⟩:=List.getElem_of_mem hu
 obtain⟨a,h1,h2,h3⟩:=h.2 i u (List.getElem?_eq_some_iff.mpr ⟨hi,e⟩)
 refine⟨a,Zdi ?_ h1,h2,h3⟩
 rw[h.keys]
 exact Zbs nd fun x _ y _ e=>ZaI e
theorem Za7 (E:List (List Nat×List Nat))(r s x:List Nat):srcOf (E++[(r,s)]) x=if r=x then srcOf E x++[s] else srcOf E x:=by
 unfold srcOf
 rw[List.filter_append,List.map_append]
 by_cases e:r=x
 ·simp[e]
 ·simp[e]
theorem SrcAt.keep {H H' H'':Hp}{pS pL:Addr}{kS:List (Key×V)}{E:List (List Nat×List Nat)}(h:SrcAt H H' pS pL kS E)(k:∀a xs,H' a=some (.lst xs)→H'' a=some (.lst xs)):SrcAt H H'' pS pL kS E:=
 ⟨h.no,fun r v hv=>let ⟨a,e,n,n1,n2,ha⟩:=h.yes r v hv;⟨a,e,n,n1,n2,k _ _ ha⟩,h.inj,h.len⟩
theorem SrcAt.old {H H':Hp}{pS pL a:Addr}{kS:List (Key×V)}{E:List (List Nat×List Nat)}{r s:List Nat}(h:SrcAt H H' pS pL kS E)(hv:valV kS (kTx r)=some (.ref a)):SrcAt H (upd H' a (.lst ((srcOf E r).map tx++[tx s]))) pS pL kS (E++[(r,s)]) where
 no:=fun x hx=>by
  have:r≠x:=fun e=>by rw[e,hx]at hv;cases hv
  rw[Za7,if_neg this];exact h.no x hx
 yes:=fun x v hx=>by
  obtain⟨a',e,n,n1,n2,ha⟩:=h.yes x v hx
  refine⟨a',e,n,n1,n2,?_⟩
  by_cases c:r=x
  ·subst c
   rw[hv]at hx
   cases hx
   cases e
   rw[Zad,Za7,if_pos rfl,List.map_append];rfl
  ·have:a'≠a:=fun z=>c (h.inj r x a hv (by rw[hx,e,z]))
   rw[Zab this,Za7,if_neg c];exact ha
 inj:=h.inj
 len:=Nat.le_trans h.len (by rw[List.length_append];omega)
theorem SrcAt.new {H H' H'':Hp}{pS pL z:Addr}{kS:List (Key×V)}{E:List (List Nat×List Nat)}{r s:List Nat}(h:SrcAt H H' pS pL kS E)(hv:valV kS (kTx r)=none)(nz:H z=none)(nz':H' z=none)(n1:z≠pS)(n2:z≠pL)
  (k:∀a xs,a≠z→H' a=some (.lst xs)→H'' a=some (.lst xs)) (hz:H'' z=some (.lst [tx s])):SrcAt H H'' pS pL (putK kS (kTx r) (.ref z)) (E++[(r,s)]) where
 no:=fun x hx=>by
  rw[ZaO]at hx
  split at hx
  ·cases hx
  ·rename_i c
   have:r≠x:=fun e=>c (by rw[e])
   rw[Za7,if_neg this];exact h.no x hx
 yes:=fun x v hx=>by
  rw[ZaO]at hx
  by_cases c:x=r
  ·subst c
   rw[if_pos rfl]at hx
   cases hx
   refine⟨z,rfl,nz,n1,n2,?_⟩
   rw[hz,Za7,if_pos rfl,h.no x hv];rfl
  ·rw[if_neg (fun e=>c (ZaI e))]at hx
   obtain⟨a',e,n,m1,m2,ha⟩:=h.yes x v hx
   refine⟨a',e,n,m1,m2,?_⟩
   rw[Za7,if_neg (fun e=>c e.symm)]
   exact k _ _ (fun e=>by rw[e,nz']at ha;cases ha) ha
 inj:=fun x y a hx hy=>by
  have look:∀x a,valV (putK kS (kTx r) (.ref z)) (kTx x)=some (.ref a)→(x=r∧a=z)∨(x≠r∧valV kS (kTx x)=some (.ref a)∧a≠z):=fun x a hx=>by
   rw[ZaO]at hx
   by_cases c:x=r
   ·rw[if_pos (by rw[c])]at hx
    cases hx
    exact .inl ⟨c,rfl⟩
   ·rw[if_neg (fun e=>c (ZaI e))]at hx
    obtain⟨a',e,n,m1,m2,ha⟩:=h.yes x _ hx
    cases e
    exact .inr ⟨c,hx,fun e=>by rw[e,nz']at ha;cases ha⟩
  rcases look x a hx with⟨e1,e2⟩|⟨e1,e2,e3⟩
  ·rcases look y a hy with⟨f1,f2⟩|⟨f1,f2,f3⟩
   ·rw[e1,f1]
   ·exact absurd e2 f3
  ·rcases look y a hy with⟨f1,f2⟩|⟨f1,f2,f3⟩
   ·exact absurd f2 e3
   ·exact h.inj x y a e2 f2
 len:=by
  have:=ZaA kS (kTx r) (.ref z)
  have:=h.len
  rw[List.length_append,List.length_singleton]
  omega
theorem Zjl (os:List (List Nat))(s r:List Nat):srcOf (os.map fun t=>(t,s)) r=List.replicate (os.count r) s:=by
 unfold srcOf
 induction os with
 | nil=>rfl
 | cons t os ih=>
  rw[List.map_cons,List.filter_cons,List.count_cons]
  by_cases e:t=r
  ·subst e
   simp only[decide_true,if_true,beq_self_eq_true,List.map_cons,ih,List.replicate_succ]
  ·have e':(t == r)=false:=by simpa using e
   simp only[decide_eq_false e,Bool.false_eq_true,if_false,e',ih,Nat.add_zero]
theorem Zjm (E F:List (List Nat×List Nat))(r:List Nat):srcOf (E++F) r=srcOf E r++srcOf F r:=by unfold srcOf;rw[List.filter_append,List.map_append]
theorem ZgJ {ws:List (List Nat)}{m r s:List Nat}{ss:List (List Nat)}(h:s∈srcOf (edges ws m ss) r):s∈ss:=by
 unfold srcOf edges at h
 obtain⟨e,he,rfl⟩:=List.mem_map.mp h
 obtain⟨u,hu,ht⟩:=List.mem_flatMap.mp (List.mem_filter.mp he).1
 obtain⟨t,_,rfl⟩:=List.mem_map.mp ht
 exact hu
theorem ZdY {ws:List (List Nat)}{m r s:List Nat}:∀ {ss:List (List Nat)},ss.Nodup→s∈ss→(srcOf (edges ws m ss) r).count s=(outS ws m s).count r
 | [],_,h=>by cases h
 | u::ss,nd,h=>by
  have e:srcOf (edges ws m (u::ss)) r=List.replicate ((outS ws m u).count r) u++srcOf (edges ws m ss) r:=by
   unfold edges
   rw[List.flatMap_cons,Zjm,Zjl]
  have nd':=List.nodup_cons.mp nd
  rw[e,List.count_append,List.count_replicate]
  by_cases c:u=s
  ·subst c
   have z:(srcOf (edges ws m ss) r).count u=0:=List.count_eq_zero.mpr fun z=>nd'.1 (ZgJ z)
   rw[z,if_pos (by simp)];rfl
  ·have hs:s∈ss:=by
    rcases List.mem_cons.mp h with z | z
    ·exact absurd z.symm c
    ·exact z
   rw[if_neg (by simpa using c),Nat.zero_add]
   exact ZdY nd'.2 hs
theorem ZgK {ws:List (List Nat)}{m r:List Nat}{ss:List (List Nat)}(m4:m.length≤4)(hl:ss.length≤8201):(edges ws m ss).length≤32804:=by
 have:(edges ws m ss).length≤ss.length*4:=ZaZ (fun s=>by
  unfold outS onw onwC
  rw[List.length_map,List.length_map,List.length_map]
  exact Nat.le_trans (List.length_filter_le _ _) m4) ss
 omega
theorem ZgL (E:List (List Nat×List Nat))(r:List Nat):(srcOf E r).length≤E.length:=by unfold srcOf;rw[List.length_map];exact List.length_filter_le _ _
def Dead (ws:List (List Nat))(m:List Nat)(k:Nat)(s:List Nat):Prop:=∀x:List Nat,(∀c∈x,c∈m)→Av ws (s++x)→x.length<k
theorem ZjB {ws:List (List Nat)}{m s t:List Nat}(h:t∈outS ws m s):∃c∈m,Av ws (s++[c])∧ZdP ws (s++[c]) t:=by
 unfold outS onw onwC at h
 obtain⟨x,hx,rfl⟩:=List.mem_map.mp h
 obtain⟨c,hc,rfl⟩:=List.mem_map.mp hx
 have:=List.mem_filter.mp hc
 exact⟨c,this.1,Zfg.mp this.2,ZbZ _ _⟩
theorem ZfP {ws:List (List Nat)}{u e:List Nat}(h:ZdP ws u e):Stem ws e:=let ⟨_,_,_,hs,_⟩:=h;hs
theorem Zj1 {l m:List Nat}{ws ss es:List (List Nat)}{f:List Nat→Nat}(ok:StripOk l m)(lk:ListOk l m ws)(sl:StemsL ws ss)(h:KI ss (outS ws m) es.length es f):EndsG ws m ss es:=by
 refine⟨h.nd,h.sub,?_,h.ord⟩
 have h0:∀s∈ss,¬Dead ws m 0 s:=fun s hs d=>by
  have:=d [] (fun c hc=>by cases hc) (by rw[List.append_nil];exact lk.stemAv ((sl.iff s).mp hs))
  omega
 have hN:([]:List Nat)∈ss:=(sl.iff []).mpr (.inl rfl)
 refine KI.all (D:=Dead ws m) h h0 (fun k s hs d t ht=>?_) (l.length+1) [] hN fun x hx ha=>?_
 ·obtain⟨c,hc,ha,he⟩:=ZjB ht
  refine⟨(sl.iff t).mpr (ZfP he),fun x hx hax=>?_⟩
  have:=d (c::x) (fun y hy=>by
   rcases List.mem_cons.mp hy with z | z
   ·rw[z];exact hc
   ·exact hx y z) ((ZdO he).mpr ⟨ha,hax⟩)
  rw[List.length_cons]at this
  omega
 ·have:=((lk.av hx).mp (by rw[List.nil_append]at ha;exact ha)).len
  omega
theorem Zgr (ws:List (List Nat))(m:List Nat)(ss:List (List Nat))(u:List Nat):edges ws m (ss++[u])=edges ws m ss++(outS ws m u).map fun r=>(r,u):=by
 unfold edges
 rw[List.flatMap_append]
 simp
theorem ZlE {K:PySem.W.Frag}{H:Hp}{Q:VK}{n:Nat}(h:Q (.bl (decide (n=0))) H):rEqD K false (.int (n:Int)) (.int 0) H Q:=.inl ⟨rfl,by
 rw[if_neg Bool.false_ne_true]
 have:decide (V.int (n:Int)=V.int 0)=decide (n=0):=by
  rw[decide_eq_decide]
  constructor
  ·intro e;injection e with e;omega
  ·intro e;rw[e];rfl
 rw[this];exact h⟩
theorem Zhx {α β:Type}(d:α)(P:α→Bool)(g:α→β)(l:List α):((List.range l.length).filter fun i=>P (l.getD i d)).map (fun i=>g (l.getD i d))=(l.filter P).map g:=by
 have e:l=(List.range l.length).map fun i=>l.getD i d:=by
  apply List.ext_getElem (by simp)
  intro i h1 h2
  simp[List.getD_eq_getElem?_getD,h1]
 conv=>rhs;rw[e]
 rw[List.filter_map,List.map_map]
 rfl
theorem Zfu {kvs:List (Key×V)}{k:Key}{v w:V}(h:valV kvs k=some w):(putK kvs k v).length=kvs.length:=by
 unfold putK
 split
 ·rw[List.length_map]
 ·rename_i c
  obtain⟨kv,hm,e⟩:=ZbL (kvs:=kvs) (k:=k) (by rw[h];rfl)
  exact absurd (List.any_eq_true.mpr ⟨kv,hm,by simpa using e⟩) c
structure LW (ws:List (List Nat))(m s x:List Nat):Prop where
 mem:∀c∈x,c∈m
 av:Av ws (s++x)
 max:∀y:List Nat,(∀c∈y,c∈m)→Av ws (s++y)→y.length≤x.length
structure PW (ws:List (List Nat))(m s:List Nat)(j:Nat)(x:List Nat):Prop where
 mem:∀c∈x,c∈m
 av:Av ws (s++x)
 max:∀(c:Nat) (y:List Nat),c∈(onwC ws m s).take j→(∀c∈y,c∈m)→Av ws (s++c::y)→y.length+1≤x.length
theorem PW.start {ws:List (List Nat)}{m s:List Nat}(h:Av ws s):PW ws m s 0 []:=
 ⟨fun c hc=>(by cases hc),(by rw[List.append_nil];exact h),fun c y hc=>(by rw[List.take_zero]at hc;cases hc)⟩
theorem ZfB {ws:List (List Nat)}{m s:List Nat}{c:Nat}:c∈onwC ws m s↔c∈m∧Av ws (s++[c]):=by
 unfold onwC
 rw[List.mem_filter,Zfg]
theorem PW.done {ws:List (List Nat)}{m s x:List Nat}(h:PW ws m s (onwC ws m s).length x):LW ws m s x:=
 ⟨h.mem,h.av,fun y hy ha=>by
  cases y with
  | nil=>exact Nat.zero_le _
  | cons c y=>
   have he:=ZbZ ws (s++[c])
   have:=(ZdO (x:=y) he).mp ha
   exact h.max c y (by rw[List.take_length];exact ZfB.mpr ⟨hy c List.mem_cons_self,this.1⟩) (fun d hd=>hy d (List.mem_cons_of_mem _ hd)) ha⟩
theorem PW.next {ws:List (List Nat)}{m s x z:List Nat}{j c:Nat}(h:PW ws m s j x)(hc:(onwC ws m s)[j]?=some c)(hz:LW ws m (estOf ws (s++[c])) z):
  (x.length<(c::z).length→PW ws m s (j+1) (c::z))∧(¬x.length<(c::z).length→PW ws m s (j+1) x):=by
 have hm:=ZfB.mp (List.mem_of_getElem? hc)
 have he:=ZbZ ws (s++[c])
 have tk:(onwC ws m s).take (j+1)=(onwC ws m s).take j++[c]:=by rw[List.take_add_one,hc];rfl
 have key:∀(d:Nat) (y:List Nat),d∈(onwC ws m s).take (j+1)→(∀c∈y,c∈m)→Av ws (s++d::y)→(y.length+1≤x.length∨y.length+1≤(c::z).length):=fun d y hd hy ha=>by
  rw[tk]at hd
  rcases List.mem_append.mp hd with q | q
  ·exact .inl (h.max d y q hy ha)
  ·rw[List.mem_singleton.mp q]at ha
   have:=hz.max y hy ((ZdO he).mp ha).2
   exact .inr (by rw[List.length_cons];omega)
 constructor
 ·intro lt
  refine⟨fun d hd=>?_,(ZdO he).mpr ⟨hm.2,hz.av⟩,fun d y hd hy ha=>?_⟩
  ·rcases List.mem_cons.mp hd with q | q
   ·rw[q];exact hm.1
   ·exact hz.mem d q
  ·rcases key d y hd hy ha with q | q<;>omega
 ·intro lt
  refine⟨h.mem,h.av,fun d y hd hy ha=>?_⟩
  rcases key d y hd hy ha with q | q<;>omega
theorem LW.text {l m x:List Nat}{ws:List (List Nat)}(ok:StripOk l m)(lk:ListOk l m ws)(h:LW ws m [] x):x=l:=by
 have h1:=h.max l ok.mem (by rw[List.nil_append];exact(lk.av ok.mem).mpr (Inf.refl _))
 have h2:=(lk.av h.mem).mp (by have:=h.av;rw[List.nil_append]at this;exact this)
 exact ZiS h2 h1
theorem LW.len {l m s x:List Nat}{ws:List (List Nat)}(ok:StripOk l m)(lk:ListOk l m ws)(hs:Stem ws s)(h:LW ws m s x):x.length≤40:=by
 have hm:∀c∈s++x,c∈m:=fun c hc=>by
  rcases List.mem_append.mp hc with z | z
  ·exact lk.stem ok hs c z
  ·exact h.mem c z
 have:=((lk.av hm).mp h.av).len
 rw[List.length_append]at this
 have:=ok.l40
 omega
def ZbJ (kvs:List (Key×V))(w:List Nat)(c:Nat):Bool:=!(valV kvs (kTx (w++[c]))).isSome&&(valV kvs (kTx ((w++[c]).drop 1))).isSome
def Zcv (kvs:List (Key×V))(m w:List Nat):List (List Nat):=(m.filter (ZbJ kvs w)).map fun c=>w++[c]
theorem ZjG {l m:List Nat}{kvs:List (Key×V)}(ok:StripOk l m)(kn:ZhO l kvs){ss:List (List Nat)}(hs:ss.map kTx=kvs.map (·.1)):ListOk l m (ss.flatMap (Zcv kvs m)):=by
 have nds:ss.Nodup:=by
  have:=kn.2.1
  rw[←hs]at this
  exact List.Pairwise.imp (fun h e=>h (by rw[e])) (List.pairwise_map.mp this)
 have hm:m.Pairwise (· < ·):=ZbY ok.k
 have mem:∀u,u∈ss↔Inf u l:=fun u=>by
  have e:=kn.1.2 u
  constructor
  ·intro h
   have:kTx u∈kvs.map (·.1):=by rw[←hs];exact List.mem_map_of_mem h
   obtain⟨kv,hk,ek⟩:=List.mem_map.mp this
   obtain⟨x,ex,hx⟩:=kn.1.1 kv hk
   rw[ZaI (ek.symm.trans ex)];exact hx
  ·intro h
   rw[Za5.mpr h]at e
   obtain⟨kv,hk,ek⟩:=ZbL e
   have:kTx u∈ss.map kTx:=by rw[hs,←ek];exact List.mem_map_of_mem hk
   obtain⟨x,hx,ex⟩:=List.mem_map.mp this
   rw[←ZaI ex];exact hx
 refine(List.perm_ext_iff_of_nodup ?_ (Zb5 hm)).mpr fun w=>?_
 ·unfold List.Nodup
  rw[List.pairwise_flatMap]
  refine⟨fun u _=>?_,nds.imp fun {u v} huv x hx y hy e=>?_⟩
  ·unfold Zcv
   rw[List.pairwise_map]
   exact List.Pairwise.imp (fun {a b} (h:a<b) (e:u++[a]=u++[b])=>Nat.ne_of_lt h (by simpa using e)) (hm.filter (ZbJ kvs u))
  ·unfold Zcv at hx hy
   obtain⟨c,_,rfl⟩:=List.mem_map.mp hx
   obtain⟨d,_,rfl⟩:=List.mem_map.mp hy
   exact huv (List.append_inj_left' e rfl)
 ·rw[Zax,List.mem_flatMap]
  constructor
  ·rintro⟨u,hu,hw⟩
   unfold Zcv at hw
   obtain⟨c,hc,rfl⟩:=List.mem_map.mp hw
   obtain⟨hcm,hb⟩:=List.mem_filter.mp hc
   unfold ZbJ at hb
   rw[kn.1.2,kn.1.2,Bool.and_eq_true,Bool.not_eq_true',List.drop_one]at hb
   refine⟨⟨by simp,by rw[List.dropLast_concat];exact(mem u).mp hu,Za5.mp hb.2,ZfL.mp hb.1⟩,c,hcm,by simp⟩
  ·rintro⟨ms,c,hc,hl⟩
   obtain⟨u,rfl⟩:=List.getLast?_eq_some_iff.mp hl
   have hi:=ms.init
   rw[List.dropLast_concat]at hi
   refine⟨u,(mem u).mpr hi,?_⟩
   unfold Zcv ZbJ
   refine List.mem_map.mpr ⟨c,List.mem_filter.mpr ⟨hc,?_⟩,rfl⟩
   rw[kn.1.2,kn.1.2,Bool.and_eq_true,Bool.not_eq_true',List.drop_one]
   exact⟨ZfL.mpr ms.no,Za5.mpr ms.tail⟩
theorem ZfI:∀ {kvs:List (Key×V)},(∀kv∈kvs,∃x:List Nat,kv.1=kTx x)→∃ss:List (List Nat),ss.map kTx=kvs.map (·.1)
 | [],_=>⟨[],rfl⟩
 | kv::kvs,h=>by
  obtain⟨ss,e⟩:=ZfI (kvs:=kvs) fun p hp=>h p (List.mem_cons_of_mem _ hp)
  obtain⟨x,ex⟩:=h kv List.mem_cons_self
  exact⟨x::ss,by rw[List.map_cons,List.map_cons,e,ex]⟩
theorem ZlV {K:PySem.W.Frag}{H H':Hp}{a:Addr}{xs:List V}(h:SqL K H a xs)(s:SameL H H'):SqL K H' a xs:=by
 rcases h with h | h
 ·rcases h with h | ⟨o,h⟩
  ·exact .inl (.inl (s _ _ h rfl))
  ·exact .inl (.inr ⟨o,s _ _ h rfl⟩)
 ·exact .inr h
def Zl8 (K:PySem.W.Frag)(a:Ad):Sp:=fun vs H Q _=>∃l m,vs=[tx l,tx m]∧l.length≤1000∧∀H2,Same H H2→Q (.bl (l.all fun c=>m.contains c)) H2
def Zl6 (K:PySem.W.Frag)(a:Ad):Sp:=fun vs H Q _=>∃l,vs=[tx l]∧l.length≤1000∧∀H2,Same H H2→Q (.bl (isk l)) H2
def Zl2 (K:PySem.W.Frag)(a:Ad):Sp:=fun vs H Q _=>∃l m most,vs=[tx l,tx m,.int most]∧l.length≤1000∧∀H2,Same H H2→Q (.bl (isw l m most)) H2
def Zmd (K:PySem.W.Frag)(a:Ad):Sp:=fun vs H Q _=>∃l,vs=[tx l]∧l.length≤1000∧isk l=true∧∀H2,Same H H2→Q .non H2
def Zma (K:PySem.W.Frag)(a:Ad):Sp:=fun vs H Q _=>∃l m most,vs=[tx l,tx m,.int most]∧l.length≤1000∧isw l m most=true∧∀H2,Same H H2→Q .non H2
def Zmp (K:PySem.W.Frag)(a:Ad):Sp:=fun vs H Q _=>∃(l:List Nat) (n:Nat),vs=[tx l,.int n]∧l.length≤200∧n≤l.length+1∧l.length<n+63∧∀p H2,Same H H2→H p=none→H2 p=some (.lst ((wordsOf l n).map tx))→Q (.ref p) H2
def Zmo (K:PySem.W.Frag)(a:Ad):Sp:=fun vs H Q _=>∃(b1 b2:Addr) (sh st:List (List Nat)) (m:List Nat),vs=[.ref b1,.ref b2,tx m]∧H b1=some (.lst (sh.map tx))∧H b2=some (.lst (st.map tx))∧sh.length≤100∧m.length≤4∧(∀w∈sh,w.length≤100)∧∀p H2,Same H H2→H p=none→H2 p=some (.lst ((ZcV sh st m).map tx))→Q (.ref p) H2
def Zmc (K:PySem.W.Frag)(a:Ad):Sp:=fun vs H Q _=>∃(p dx:Addr) (l m:List Nat),vs=[.ref p,tx l,tx m]∧H p=some (.ins a.c_K3 dx [])∧∀H2,Zdh a.c_K3 H2 p l m→(∀b o,H b=some o→b≠p→H2 b=some o)→Q .non H2
def Zme (K:PySem.W.Frag)(a:Ad):Sp:=fun vs H Q _=>∃(p dx:Addr) (l m:List Nat),vs=[.ref p,tx l,tx m]∧H p=some (.ins a.c_K3 dx [])∧StripOk l m∧∀H2,Zdh a.c_K3 H2 p l m→(∀b o,H b=some o→b≠p→H2 b=some o)→Q .non H2
def Zmi (K:PySem.W.Frag)(a:Ad):Sp:=fun vs H Q _=>∃(p:Addr) (l m:List Nat) (n:Nat),vs=[.ref p,.int n]∧Zdh a.c_K3 H p l m∧Q (tx l) H
def Zmf (K:PySem.W.Frag)(a:Ad):Sp:=fun vs H Q _=>∃(p:Addr) (l m:List Nat) (n:Nat),vs=[.ref p,.int n]∧Zdh a.c_K3 H p l m∧StripOk l m∧n≤l.length+1∧∀q H2,Same H H2→H q=none→H2 q=some (.lst ((wordsOf l n).map tx))→Q (.ref q) H2
def Zmg (K:PySem.W.Frag)(a:Ad):Sp:=fun vs H Q _=>∃(p:Addr) (l m:List Nat),vs=[.ref p]∧Zdh a.c_K3 H p l m∧StripOk l m∧Q (.int ((l.length:Nat)+1)) H
def Zmh (K:PySem.W.Frag)(a:Ad):Sp:=fun vs H Q _=>∃(p:Addr) (l m:List Nat),vs=[.ref p]∧Zdh a.c_K3 H p l m∧StripOk l m∧∀q H2,Same H H2→H2 q=some (.lst ((Za3 l m).map tx))→Q (.ref q) H2
def Zmj (K:PySem.W.Frag)(a:Ad):Sp:=fun vs H Q _=>∃c k,vs=[.int c,.int k]∧∀r:Int,0≤r→Q (.int r) H
def Zml (K:PySem.W.Frag)(a:Ad):Sp:=fun vs H Q _=>∃(b:Addr) (ns:List Int) (k:Int),vs=[.ref b,.int k]∧SqL K H b (ns.map V.int)∧0≤k∧∀r:Int,Q (.int r) H
def Zmq (K:PySem.W.Frag)(a:Ad):Sp:=fun vs H Q _=>∃c:Int,vs=[.int c]∧∀m:List Nat,isk m=true→1≤m.length→m.length≤4→Q (tx m) H
def Zmn (K:PySem.W.Frag)(a:Ad):Sp:=fun vs H Q _=>∃(c:Int) (d:Bool) (m:List Nat) (n:Int),vs=[.int c,.bl d,tx m,.int n]∧1≤m.length∧m.length≤4∧0≤n∧n≤60∧∀l:List Nat,l.length=n.toNat→(∀x∈l,x∈m)→Q (tx l) H
def Zmk (K:PySem.W.Frag)(a:Ad):Sp:=fun vs H Q _=>∃(c d:Int) (m:List Nat),vs=[.int c,.int d,tx m,.int 40]∧1≤m.length∧m.length≤4∧∀l:List Nat,l.length≤40→(∀x∈l,x∈m)→Q (tx l) H
def Zl7 (K:PySem.W.Frag)(a:Ad):Sp:=fun vs H Q _=>∃(p:Addr) (ws:List (List Nat)),vs=[.ref p]∧H p=some (.lst (ws.map tx))∧(∀w∈ws,w.length≤1000)∧TblOk H a.t_KQ lpos lq∧∀(ws':List (List Nat)) (r:Addr) (H2:Hp),ws'.Perm ws→ws'.Pairwise (fun a b=>¬BefW b a)→SameL H H2→TblOk H2 a.t_KQ lpos lq→H r=none→H2 r=some (.lst (ws'.map tx))→Q (.ref r) H2
def ZlY (K:PySem.W.Frag)(a:Ad):Sp:=fun vs H Q _=>∃(b:Addr) (ws:List (List Nat)) (w:List Nat),vs=[.ref b,tx w]∧H b=some (.lst (ws.map tx))∧ws.length≤1000∧w.length≤1000∧∀H2,Same H H2→Q (.bl (avB ws w)) H2
def Zl9 (K:PySem.W.Frag)(a:Ad):Sp:=fun vs H Q _=>∃(l:List Nat),vs=[tx l]∧l.length≤40∧∀(p:Addr) (kvs:List (Key×V)) (H2:Hp),Same H H2→H p=none→H2 p=some (.dK kvs)→ZhO l kvs→Q (.ref p) H2
def Zmb (K:PySem.W.Frag)(a:Ad):Sp:=fun vs H Q _=>∃(b:Addr) (ws:List (List Nat)) (l m:List Nat),vs=[.ref b,tx m]∧H b=some (.lst (ws.map tx))∧StripOk l m∧ListOk l m ws∧∀H2,Same H H2→Q .non H2
def Zl4 (K:PySem.W.Frag)(a:Ad):Sp:=fun vs H Q _=>∃(b:Addr) (ws:List (List Nat)) (l m:List Nat),vs=[.ref b]∧H b=some (.lst (ws.map tx))∧StripOk l m∧ListOk l m ws∧∀H2,Same H H2→Q .non H2
def ZlX (K:PySem.W.Frag)(a:Ad):Sp:=fun vs H Q _=>∃(b:Addr) (ws:List (List Nat)),vs=[.ref b]∧H b=some (.lst (ws.map tx))∧ws.length≤200∧(∀w∈ws,w.length≤41)∧∀(p:Addr) (kvs:List (Key×V)) (H2:Hp),Same H H2→H p=none→H2 p=some (.dK kvs)→StemD ws kvs→Q (.ref p) H2
def Zmr (K:PySem.W.Frag)(a:Ad):Sp:=fun vs H Q _=>∃(p:Addr) (kvs:List (Key×V)) (ws:List (List Nat)) (u:List Nat),vs=[.ref p,tx u]∧Rd H p (.dK kvs)∧StemD ws kvs∧u.length≤1000∧∀e H2,Same H H2→ZdP ws u e→Q (tx e) H2
def ZlW (K:PySem.W.Frag)(a:Ad):Sp:=fun vs H Q _=>∃(b:Addr) (ws:List (List Nat)) (l m:List Nat),vs=[.ref b,tx m]∧H b=some (.lst (ws.map tx))∧StripOk l m∧ListOk l m ws∧∀(p:Addr) (kw:List (Key×V)) (ss:List (List Nat)) (H2:Hp),Same H H2→H p=none→H2 p=some (.dK kw)→WaysL H2 p kw ws m ss→StemsL ws ss→Q (.ref p) H2
def Zmm (K:PySem.W.Frag)(a:Ad):Sp:=fun vs H Q _=>∃(p:Addr) (kw:List (Key×V)) (ws ss:List (List Nat)) (l m:List Nat),vs=[.ref p]∧H p=some (.dK kw)∧WaysL H p kw ws m ss∧StemsL ws ss∧StripOk l m∧ListOk l m ws∧∀(q:Addr) (es:List (List Nat)) (H2:Hp),Same H H2→H q=none→H2 q=some (.lst (es.map tx))→EndsG ws m ss es→Q (.ref q) H2
def Zl1 (K:PySem.W.Frag)(a:Ad):Sp:=fun vs H Q _=>∃(p q:Addr) (kw:List (Key×V)) (ws ss es:List (List Nat)) (l m:List Nat),vs=[.ref p,.ref q]∧H p=some (.dK kw)∧WaysL H p kw ws m ss∧StemsL ws ss∧StripOk l m∧ListOk l m ws∧H q=some (.lst (es.map tx))∧EndsG ws m ss es∧∀H2,Same H H2→Q (tx l) H2
def ZlZ (K:PySem.W.Frag)(a:Ad):Sp:=fun vs H Q _=>∃(b:Addr) (ws:List (List Nat)) (l m:List Nat),vs=[.ref b,tx m,tx l]∧H b=some (.lst (ws.map tx))∧StripOk l m∧ListOk l m ws∧∀H2,Same H H2→Q .non H2
def Zl3 (K:PySem.W.Frag)(a:Ad):Sp:=fun vs H Q _=>∃(b:Addr) (ws:List (List Nat)) (l m:List Nat),vs=[.ref b,tx m]∧H b=some (.lst (ws.map tx))∧StripOk l m∧ListOk l m ws∧TblOk H a.t_KQ lpos lq∧∀H2,SameL H H2→TblOk H2 a.t_KQ lpos lq→Q (tx l) H2
def Zl0 (K:PySem.W.Frag)(a:Ad):Sp:=fun vs H Q _=>∃(b:Addr) (l m:List Nat),vs=[.ref b,tx m]∧H b=some (.lst [tx l])∧StripOk l m∧∀(q:Addr) (ws:List (List Nat)) (H2:Hp),Same H H2→H2 q=some (.lst (ws.map tx))→ListOk l m ws→Q (.ref q) H2
def Zl5 (K:PySem.W.Frag)(a:Ad):Sp:=fun vs H Q _=>∃(b:Addr) (ws:List (List Nat)) (c:Int),vs=[.ref b,.int c]∧H b=some (.lst (ws.map tx))∧ws.length≤1000∧∀(q:Addr) (ls:List (List Nat)) (H2:Hp),Same H H2→H q=none→H2 q=some (.lst (ls.map tx))→ls.Perm ws→Q (.ref q) H2
def spLaw (K:PySem.W.Frag)(tb:Str→Addr×Addr):Sp:=fun vs H Q _=>∃(b:Addr) (ns:List Int),vs=[.ref b]∧SqL K H b (ns.map V.int)∧ns.length≤63∧TblOk H (tb "in_order").2 lpos lq∧∀H2,Q (.bl true) H2
section
variable {P:Program}{w:World}{K:PySem.W.Frag}{mg:Str→Option Value}{base:Heap}{a:Ad}{tb:Str→Addr×Addr}
local macro_rules | `(tactic| walk_at "r0") => `(tactic| simp only [tSeq, tAsg, tPar, tOp, tUn, tVar, tC, ZbK, gNil, Zno, tRet, ZlS, tIfS, Zko, tB, tNot, tAnd, tOr, ZkG, tOrV, Zkr, tIf, Zkw, tNil, ZkD, ZmO, ZmL, ZmN, ZmM, ZmQ, Zji, tCB, ZlR, ZmI, Zkm, tBM, tBM0, tSl, Zkq, tNoPart, tNext, L2.start, cxK, bxK, cxPr, cxWo, suxK, ZlU, ZlT, Zkp, tTry, ZkF, ZmJ, ZkJ, sIfx, hAs, ZlA, Znn, unE, Zkn, Zkx, Zfo, ZmP, ZkR, Zlx, Zlw, ZjU, iTup, Znm, Zlv, gTup, pick, Option.bind_some, Option.bind_none, Option.join_some, Option.join_none, List.map_cons, List.map_nil, List.length_cons, List.length_nil, Nat.zero_add, Nat.reduceAdd, Nat.reduceSub, List.replicate_succ, List.replicate_zero, List.cons_append, List.nil_append, List.append_nil, List.getElem?_cons_zero, List.getElem?_cons_succ, List.set_cons_zero, List.set_cons_succ, q_I, q_I0, q_U, q_T, q_b, q_var, q_var', iZip, Zjx, Zku, Zjf, tFld, sFld, sNo, tAug, ZkE, ZkM, Zks, Zkt, tDNewK, ZkK, tDIn, ZgH, Zky, ZmK, ZkI, Zly, Zjg, ZkC, ZkB, ipI, Zje, tListVT, tDSetT, ZkA, Zkv, ZiG, ZkL, Zkz, ZiH, rDct, Zlu])
local macro_rules | `(tactic| walk_at "r1") => do
 let some t ←Lean.Macro.expandMacro? (←`(tactic| walk_at "r0")) | Lean.Macro.throwUnsupported
 match (⟨t⟩:Lean.TSyntax `tactic) with
 | `(tactic| simp only[$l,*])=>let d:=⟨l.elemsAndSeps⟩;`(tactic| dsimp only[$d,*])
 | _=>Lean.Macro.throwUnsupported
local macro_rules | `(tactic| walk_at "rd") => `(tactic| first | (walk_at "r1"; try walk_at "r0") | walk_at "r0")
local macro_rules | `(tactic| walk_at "sc") => `(tactic| exact ⟨rfl, rfl, rfl, by decide +kernel, rfl, by decide +kernel, by decide +kernel⟩)
local macro_rules | `(tactic| walk_at "rd?") => `(tactic| (try walk_at "rd"))
theorem Zmx:FnScope ["text","letters"] ["text","letters"] (Zah s_KP):=by walk_at "sc"
theorem Zk5 (T:TL K mg base a tb):FnOk P w K mg base CX0 1 a.f_KP a.d_KP ["text","letters"] (Zl8 K a):=by
 refine T.f_KP.ok Zmx (fun vs H Q E h=>?_) (fun cdv A outer s H vs Q E hr h=>?_)
 ·obtain⟨_,_,rfl,_⟩:=h;rfl
 ·have hu64:=hr.units
  have hu1:=ZaN hr
  obtain⟨l,m,rfl,hl,q⟩:=h
  refine⟨_,(Zag (Zay (Zan (ZhH rfl) rfl T.z_all ZlN (Zaa (Zdr (N:=["sign","letters"]) (ix:=[none,some 1]) rfl (ZbB rfl) rfl (Zdq (pv 0)) (fun _ _ _ _=>(Zaq (i:=0) (show (["sign","letters"]:List Str).Nodup from by decide +kernel) rfl (Or.inl rfl) (Or.inr rfl))) (fun _ _ _ _=>Zce) (fun _ _ _ _=>(ZbH Zga (pv 0) (pv 1) rfl))) Zae)))),?_⟩
  walk_at "rd"
  refine⟨l,rfl,CompRun.text (fun _=>true) (fun i=>.bl (decide (l.getD i 0∈m))) hl ?_ ?_ ?_⟩
  ·intro i H1 Q1 hi s1 q1;exact q1 H1 (Same.refl _)
  ·intro i H1 Q1 hi _ s1 q1
   walk_at "rd"
   exact⟨_,m,rfl,rfl,q1 H1 (Same.refl _)⟩
  ·intro p H1 s1 n1 l1
   refine⟨p,(List.range l.length).map (fun i=>decide (l.getD i 0∈m)),rfl,?_,?_⟩
   ·rw[l1,filter_all,List.map_map];rfl
   ·rw[all_range];exact q H1 s1
theorem Zmw:FnScope ["words"] ["words"] (Zah s_KQ):=by walk_at "sc"
theorem Zm2 (T:TL K mg base a tb):FnOk P w K mg base CX0 1 a.f_KQ a.d_KQ ["words"] (Zl7 K a):=by
 refine T.f_KQ.okC T.cd_KQ Zmw (fun vs H Q E h=>?_) (fun A outer s H vs Q E hr h=>?_)
 ·obtain⟨_,_,rfl,_⟩:=h;rfl
 ·have hu64:=hr.units
  have hu1:=ZaN hr
  obtain⟨p,ws,rfl,hp,hw,tk,q⟩:=h
  refine⟨_,(Zag (Zay (Zh2 (q:="in_order.<locals>.<lambda>") hr T.L_in_order rfl rfl T.z_sorted T.z_len (Zaa (pv 0) Zae) rfl rfl (by kernel_rfl) ⟨rfl,rfl,rfl,rfl,rfl,rfl⟩ (fun _ _ _ _ _=>.of_eq rfl)))),?_⟩
  have sz:∀k:Nat,k≤1000→k≤sizeLine:=fun k h=>Nat.le_trans h (by rw[sizeLine_eq];decide)
  walk_at "rd"
  exact⟨p,ws,rfl,hp,fun w h=>sz _ (hw w h),tk,fun ws' r H2 a b c=>q ws' r H2 a b c.1⟩
theorem ZmG:FnScope ["text","length"] ["text","length"] (Zah s_K2):=by walk_at "sc"
theorem Zne (T:TL K mg base a tb):FnOk P w K mg base CX0 1 a.f_K2 a.d_K2 ["text","length"] (Zmp K a):=by
 refine T.f_K2.ok ZmG (fun vs H Q E h=>?_) (fun cdv A outer s H vs Q E hr h=>?_)
 ·obtain⟨_,_,rfl,_⟩:=h;rfl
 ·have hu64:=hr.units
  have hu1:=ZaN hr
  obtain⟨l,n,rfl,hl,hn,h63,q⟩:=h
  refine⟨_,(Zag (Zay (Zan (Zbv rfl) rfl T.z_sorted ZcN (Zaa (Zbr (ZcM rfl) rfl T.z_set Zi5 (Zaa (Zdr (N:=["start","length","text"]) (ix:=[none,some 1,some 0]) rfl (ZbB rfl) rfl (ZbP rfl T.z_range (Zaa (Zat ZaY (Zat ZkX (Zan (Zap (K:=K) rfl) rfl T.z_len ZaT (Zaa (pv 0) Zae)) (pv 1)) Zaj) Zae)) (fun _ _ _ _=>(Zaq (i:=0) (show (["start","length","text"]:List Str).Nodup from by decide +kernel) rfl (Or.inl rfl) (Or.inr rfl))) (fun _ _ _ _=>Zce) (fun _ _ _ _=>(Za1 ZcR (pv 2) (Za2 (pv 0)) (Za2 (Zat ZaY (pv 0) (pv 1)))))) Zae)) Zae)))),?_⟩
  walk_at "rd"
  have sz:l.length≤sizeLine:=Nat.le_trans hl (by rw[sizeLine_eq];decide)
  have ec:((l.length:Int)-(n:Nat)+1).toNat=l.length+1-n:=by omega
  refine⟨_,_,rfl,ZbV (by omega),_,rfl,by omega,by omega,?_⟩
  rw[ec]
  refine CompRun.rangeA (fun i=>tx ((l.drop i).take n)) (by omega) ?_ ?_
  ·intro i H1 Q1 hi s1 q1
   walk_at "rd"
   refine⟨_,rfl,_,rfl,l,rfl,sz,?_⟩
   have e1:(0+(i:Int))=((i:Nat):Int):=by omega
   have e2:((i:Nat):Int)+(n:Nat)=((i+n:Nat):Int):=by omega
   rw[e1,e2,Zi3]
   have e3:i+n-i=n:=by omega
   rw[e3]
   exact q1 H1 (Same.refl _)
  ·intro p H1 s1 n1 l1
   refine⟨(List.range (l.length+1-n)).map (fun i=>(l.drop i).take n),by simp;omega,.inr ⟨p,rfl,.mk (by rw[l1,List.map_map];rfl)⟩,fun p2 n2=>⟨p2,_,rfl,Zad,?_,NewL.of fun p3 H3 s3 n3 l3=>q p3 H3 (s1.trans ((Zav n2).trans s3)) ((s1.trans (Zav n2)).free n3) l3⟩⟩
   refine Nat.lt_of_le_of_lt (Znr _) ?_
   rw[List.length_map,List.length_range]
   omega
theorem ZgR:FnScope ["shorter","standing","kinds","found","head","letter","word"] ["shorter","standing","kinds"] (Zah s_K4):=by walk_at "sc"
theorem Znd (T:TL K mg base a tb):FnOk P w K mg base CX0 1 a.f_K4 a.d_K4 ["shorter","standing","kinds"] (Zmo K a):=by
 refine T.f_K4.ok ZgR (fun vs H Q E h=>?_) (fun cdv A outer s H vs Q E hr h=>?_)
 ·obtain⟨_,_,_,_,_,rfl,_⟩:=h;rfl
 ·have hu64:=hr.units
  have hu1:=ZaN hr
  obtain⟨b1,b2,sh,st,m,rfl,hb1,hb2,hsh,hm,hw,q⟩:=h
  refine⟨_,(Zac (Zam (i:=3) ZgR.nd rfl (Or.inl rfl) (Zcb Zae))
   (Zac (ZaM PassesOwn.never rfl (ZaV (K:=K) rfl (pv 0)) (Zaq (i:=4) ZgR.nd rfl (Or.inl rfl))
   (Zag (ZaM PassesOwn.never rfl (Zdq (pv 2)) (Zaq (i:=5) ZgR.nd rfl (Or.inl rfl))
   (Zac (Zam (i:=6) ZgR.nd rfl (Or.inl rfl) (Zat ZaW (pv 4) (pv 5)))
   (Zag (Zbj (PW.pt (Zft (Zaw (Zgb (K:=K) rfl) (Za1 ZcR (pv 6) (Za2 Zaj) Zbq) (pv 0) rfl) (Zdn (Zaw (ZbR (K:=K) rfl) (pv 6) (pv 1) rfl)))) (Zag (ZaU (ZeW PySem.F.plainAttrs_list PySem.F.slot_list_append PySem.F.type_list_append Zbk (pv 3) (Zaa (pv 6) Zae)))) ZaB))))))
   (Zag (Zay (pv 3))))),?_⟩
  walk_at "rd"
  refine⟨Nat.zero_le _,NewL.of fun pf H1 s1 nf lf=>⟨b1,rfl,⟨_,.mk (s1 _ _ hb1)⟩,ForRun.list (xs:=sh.map tx) (fun i σ H'=>∃v4 v5 v6,σ=[some (.ref b1),some (.ref b2),some (tx m),some (.ref pf),v4,v5,v6]∧Same H H'∧H' pf=some (.lst (((sh.take i).flatMap (ZdB sh st m)).map tx))) ⟨_,_,_,rfl,s1,lf⟩ (fun i σ H' _ ⟨_,_,_,_,s',_⟩=>.mk (s' _ _ hb1)) ?_ ?_⟩⟩
  ·rintro i x σ H2 hx ⟨v4,v5,v6,rfl,s2,l2⟩
   obtain⟨h,hh,rfl⟩:∃h,sh[i]?=some h∧x=tx h:=by
    rw[List.getElem?_map]at hx
    cases e:sh[i]? with
    | none=>rw[e]at hx;cases hx
    | some h=>rw[e]at hx;exact⟨h,rfl,(Option.some.inj hx).symm⟩
   have hw1:=hw h (List.mem_of_getElem? hh)
   have fl:=ZaZ (f:=ZdB sh st m) (b:=4) (fun x=>Nat.le_trans (Zeh _ _ _ _) hm) (sh.take i)
   have tl:(sh.take i).length≤100:=by rw[List.length_take];omega
   walk_at "rd"
   refine⟨m,rfl,ForRun.text (fun j σ H'=>∃v5 v6,σ=[some (.ref b1),some (.ref b2),some (tx m),some (.ref pf),some (tx h),v5,v6]∧Same H H'∧H' pf=some (.lst (((sh.take i).flatMap (ZdB sh st m)++((m.take j).filter (ZbX sh st h)).map (fun c=>h++[c])).map tx))) ⟨_,_,rfl,s2,by simpa using l2⟩ ?_ ?_⟩
   ·rintro j c σ H3 hc ⟨v5,v6,rfl,s3,l3⟩
    have fj:=List.length_filter_le (ZbX sh st h) (m.take j)
    rw[List.length_take]at fj
    have fe:(m.take (j+1)).filter (ZbX sh st h)=(m.take j).filter (ZbX sh st h)++if ZbX sh st h c=true then [c] else []:=by
     rw[ZdT hc,List.filter_append]
     congr 1
     by_cases z:ZbX sh st h c=true
     ·rw[if_pos z,List.filter_cons_of_pos z];rfl
     ·rw[if_neg z,List.filter_cons_of_neg z];rfl
    rw[fe]
    walk_at "rd"
    refine⟨by rw[sizeLine_eq];omega,_,rfl,_,rfl,by rw[List.length_append,List.length_singleton,sizeLine_eq];omega,?_⟩
    rw[Zj5]
    refine⟨b1,_,rfl,.inl (.mk (s3 _ _ hb1)),rfl,Za9 _,_,rfl,?_⟩
    rw[if_neg Bool.false_ne_true,Zhr]
    by_cases t1:(h++[c]).tail∈sh
    ·rw[decide_eq_true t1]
     refine iteT ⟨b2,_,rfl,.inl (.mk (s3 _ _ hb2)),rfl,Za9 _,_,rfl,?_⟩
     rw[if_pos rfl,Zhr]
     by_cases t2:h++[c]∈st
     ·have e:¬ZbX sh st h c=true:=by unfold ZbX;rw[decide_eq_true t2];simp
      rw[decide_eq_true t2,Bool.not_true,if_neg e,List.append_nil]
      exact iteF ⟨_,_,rfl,s3,l3⟩
     ·have e:ZbX sh st h c=true:=by unfold ZbX;rw[decide_eq_true t1,decide_eq_false t2];rfl
      rw[decide_eq_false t2,Bool.not_false,if_pos e]
      refine iteT ⟨.inl ⟨rfl,_,.mk l3⟩,pf,_,_,rfl,rfl,l3,by rw[List.length_map,List.length_append,List.length_map,sizeLine_eq];omega,_,_,rfl,same_upd3 s3 nf,?_⟩
      rw[Zad]
      simp
    ·have e:¬ZbX sh st h c=true:=by unfold ZbX;rw[decide_eq_false t1];simp
     rw[decide_eq_false t1,if_neg e,List.append_nil]
     exact iteF (iteF ⟨_,_,rfl,s3,l3⟩)
   ·rintro σ H3 ⟨v5,v6,rfl,s3,l3⟩
    refine⟨_,_,_,rfl,s3,?_⟩
    rw[l3,ZdT hh,List.flatMap_append,List.flatMap_singleton,List.take_length]
    rfl
  ·rintro σ H2 ⟨v4,v5,v6,rfl,s2,l2⟩
   walk_at "rd"
   rw[List.length_map,List.take_length]at l2
   exact q pf H2 s2 nf l2
theorem Zmt:FnScope ["words","word"] ["words","word"] (Zah s_KZ):=by walk_at "sc"
theorem Zk1 (T:TL K mg base a tb):FnOk P w K mg base CX0 1 a.f_KZ a.d_KZ ["words","word"] (ZlY K a):=by
 refine T.f_KZ.ok Zmt (fun vs H Q E h=>?_) (fun cdv A outer s H vs Q E hr h=>?_)
 ·obtain⟨_,_,_,rfl,_⟩:=h;rfl
 ·have hu64:=hr.units
  have hu1:=ZaN hr
  obtain⟨b,ws,w_,rfl,hb,hn,hw,q⟩:=h
  refine⟨_,(Zag (Zay (ZkV (Zan (ZhG rfl) rfl T.z_any ZlM (Zaa (Zdr (N:=["piece","word"]) (ix:=[none,some 1]) rfl (ZbB rfl) rfl (ZaV (K:=K) rfl (pv 0)) (fun _ _ _ _=>(Zaq (i:=0) (show (["piece","word"]:List Str).Nodup from by decide +kernel) rfl (Or.inl rfl) (Or.inr rfl))) (fun _ _ _ _=>Zce) (fun _ _ _ _=>(ZbH ZfA (pv 0) (pv 1) rfl))) Zae))))),?_⟩
  walk_at "rd"
  refine⟨b,rfl,⟨_,.mk hb⟩,CompRun.listL (xs:=ws.map tx) (fun _=>true) (fun i=>.bl (infB (ws.getD i []) w_)) (by rw[List.length_map];omega) (.mk hb) (fun i H' Q' _ _ q=>q H' (Same.refl _)) ?_ ?_⟩
  ·intro i H1 Q1 hi _ s1 q1
   rw[List.length_map]at hi
   rw[ZjW hi]
   walk_at "rd"
   exact⟨_,w_,rfl,rfl,q1 H1 (Same.refl _)⟩
  ·intro p H1 s1 n1 l1
   rw[filter_all,List.length_map]at l1
   refine⟨p,ws.map fun p=>infB p w_,rfl,?_,?_⟩
   ·rw[l1,List.map_map]
    congr 2
    apply List.ext_getElem (by simp)
    intro i h1 h2
    have hi:i<ws.length:=by simpa using h2
    simp[List.getD_eq_getElem?_getD,List.getElem?_eq_getElem hi]
   ·have e:(ws.map fun p=>infB p w_).any id=ws.any fun p=>infB p w_:=by rw[List.any_map];rfl
    rw[e]
    exact q H1 s1
theorem Zjr:FnScope ["words","other","one"] ["words"] (Zah s_KT):=by walk_at "sc"
theorem Zm0 (T:TL K mg base a tb):FnOk P w K mg base CX0 1 a.f_KT a.d_KT ["words"] (Zl4 K a):=by
 refine T.f_KT.ok Zjr (fun vs H Q E h=>?_) (fun cdv A outer s H vs Q E hr h=>?_)
 ·obtain⟨_,_,_,_,rfl,_⟩:=h;rfl
 ·have hu64:=hr.units
  have hu1:=ZaN hr
  obtain⟨b,ws,l,m,rfl,hb,ok,lk,q⟩:=h
  refine⟨_,(Zag (ZaM PassesOwn.never rfl (ZaV (K:=K) rfl (pv 0)) (Zaq (i:=1) Zjr.nd rfl (Or.inl rfl))
   (Zag (ZaM PassesOwn.never rfl (ZaV (K:=K) rfl (pv 0)) (Zaq (i:=2) Zjr.nd rfl (Or.inl rfl))
   (Zag (Zbj (PW.pt (Zft (Zaw (Zdt (K:=K) rfl hu64) (pv 2) (pv 1) (ZaH _)) (Zdn (Zaw ZfA (pv 2) (pv 1) rfl)))) (Zag Zd4) ZaB)))))),?_⟩
  walk_at "rd"
  refine⟨b,rfl,⟨_,.mk hb⟩,ForRun.list (xs:=ws.map tx) (fun i σ H'=>∃v1 v2,σ=[some (.ref b),v1,v2]∧Same H H') ⟨_,_,rfl,Same.refl _⟩ (fun i σ H' _ ⟨_,_,_,s'⟩=>.mk (s' _ _ hb)) ?_ ?_⟩
  ·rintro i x σ H1 hx ⟨v1,v2,rfl,s1⟩
   obtain⟨y,hy,rfl⟩:=Zcw hx
   walk_at "rd"
   refine⟨b,rfl,⟨_,.mk (s1 _ _ hb)⟩,ForRun.list (xs:=ws.map tx) (fun j σ H'=>∃v2,σ=[some (.ref b),some (tx y),v2]∧Same H H') ⟨_,rfl,s1⟩ (fun i σ H' _ ⟨_,_,s'⟩=>.mk (s' _ _ hb)) ?_ ?_⟩
   ·rintro j x σ H2 hx2 ⟨v2,rfl,s2⟩
    obtain⟨z,hz,rfl⟩:=Zcw hx2
    walk_at "rd"
    refine Zla fun k hk=>⟨k,rfl,ite2 (fun e=>⟨z,y,rfl,rfl,ite2 (fun e2=>?_) (fun _=>⟨_,rfl,s2⟩)⟩) (fun _=>iteF ⟨_,rfl,s2⟩)⟩
    exact hk e (lk.anti z (List.mem_of_getElem? hz) y (List.mem_of_getElem? hy) (Za5.mp e2))
   ·rintro σ H2 ⟨v2,rfl,s2⟩
    exact⟨_,_,rfl,s2⟩
  ·rintro σ H1 ⟨v1,v2,rfl,s1⟩
   exact q H1 s1
theorem ZhX:FnScope ["words","stems","word","size"] ["words"] (Zah s_LA):=by walk_at "sc"
theorem ZmW (T:TL K mg base a tb):FnOk P w K mg base CX0 1 a.f_LA a.d_LA ["words"] (ZlX K a):=by
 refine T.f_LA.ok ZhX (fun vs H Q E h=>?_) (fun cdv A outer s H vs Q E hr h=>?_)
 ·obtain⟨_,_,rfl,_⟩:=h;rfl
 ·have hu64:=hr.units
  have hu1:=ZaN hr
  obtain⟨b,ws,rfl,hb,hn,h41,q⟩:=h
  refine⟨_,(Zac (Zam (i:=1) ZhX.nd rfl (Or.inl rfl) (Zg0 (Zfw (Zbo (l:=[]) (by decide +kernel)) Zd7 ZgW) rfl rfl (by simp) (by decide)))
   (Zac (ZaM PassesOwn.never rfl (ZaV (K:=K) rfl (pv 0)) (Zaq (i:=2) ZhX.nd rfl (Or.inl rfl))
   (Zag (ZaM PassesOwn.never rfl (Zcs rfl T.z_range (Zaa Zaj (Zaa (Zan (Zap (K:=K) rfl) rfl T.z_len ZaT (Zaa (pv 2) Zae)) Zae))) (Zaq (i:=3) ZhX.nd rfl (Or.inl rfl))
   (Zag (ZbG hu1 (pv 1) (Za1 ZcR (pv 2) Zbq (Za2 (pv 3))) Zd7 rfl)))))
   (Zag (Zay (pv 1))))),?_⟩
  have sz:∀k:Nat,k≤9000→k≤sizeLine:=fun k h=>Nat.le_trans h (by rw[sizeLine_eq];decide)
  walk_at "rd"
  intro p hp
  have s1:Same H (upd (upd H p (.dK [])) p (.dK (ZaD [] [(kTx [],.bl true)]))):=Zd1 hp
  have h1:upd (upd H p (.dK [])) p (.dK (ZaD [] [(kTx [],.bl true)])) p=some (.dK (ZaD [] [(kTx [],.bl true)])):=Zad
  refine⟨Zad,[(kTx [],.bl true)],rfl,by show (1:Nat)≤15;decide,b,rfl,⟨_,.mk (s1 _ _ hb)⟩,?_⟩
  have k1:StemP ws 0 0 (ZaD [] [(kTx [],.bl true)]):=StemP.start ws
  have l1:(ZaD [] [(kTx [],.bl true)]).length≤1:=ZaL _ _
  generalize ZaD [] [(kTx [],.bl true)]=kv0 at s1 h1 k1 l1
  generalize upd (upd H p (.dK [])) p (.dK kv0)=H1 at s1 h1
  refine ForRun.list (xs:=ws.map tx) (fun i σ H'=>∃v2 v3 kvs,σ=[some (.ref b),some (.ref p),v2,v3]∧Same H H'∧H' p=some (.dK kvs)∧StemP ws i 0 kvs∧kvs.length≤1+41*i) ⟨_,_,_,rfl,s1,h1,k1,by omega⟩ (fun i σ H' _ ⟨_,_,_,_,s',_⟩=>.mk (s' _ _ hb)) ?_ ?_
  ·rintro i x σ H2 hx ⟨v2,v3,kvs,rfl,s2,h2,k2,n2⟩
   obtain⟨w_,hw,rfl⟩:=Zcw hx
   have w41:=h41 w_ (List.mem_of_getElem? hw)
   have hi:=(List.getElem?_eq_some_iff.mp hw).1
   walk_at "rd"
   refine⟨_,_,rfl,ZbV (by omega),_,_,rfl,⟨by omega,by omega,by omega,by omega⟩,?_⟩
   refine ForRun.range (fun j σ H'=>∃v3 kvs,σ=[some (.ref b),some (.ref p),some (tx w_),v3]∧Same H H'∧H' p=some (.dK kvs)∧StemP ws i (1+j) kvs∧kvs.length≤1+41*i+j) ⟨_,_,rfl,s2,h2,k2.one hw,by omega⟩ ?_ ?_
   ·rintro j σ H3 hj ⟨v3,kvs,rfl,s3,h3,k3,n3⟩
    have e1:(1+(j:Int))=((1+j:Nat):Int):=by omega
    have j41:j≤41:=by omega
    walk_at "rd"
    refine⟨_,rfl,w_,rfl,sz _ (by omega),?_⟩
    rw[e1,Zi2]
    refine⟨p,_,rfl,DPut.k (k:=kTx (w_.take (1+j))) h3 (Nat.lt_of_lt_of_le (show _<9000 by omega) (sz 9000 (Nat.le_refl _))),_,_,rfl,same_upd3 s3 hp,Zad,?_,?_⟩
    ·have:=k3.put hw (show 1+j<w_.length by omega)
     rw[show 1+(j+1)=1+j+1 by omega]
     exact this
    ·have:=ZaA kvs (kTx (w_.take (1+j))) (.bl true)
     omega
   ·rintro σ H3 ⟨v3,kvs,rfl,s3,h3,k3,n3⟩
    exact⟨_,_,_,rfl,s3,h3,k3.next hw (by omega),by omega⟩
  ·rintro σ H2 ⟨v2,v3,kvs,rfl,s2,h2,k2,n2⟩
   walk_at "rd"
   rw[List.length_map]at k2 n2
   exact q p kvs H2 s2 hp h2 (k2.done (by omega))
theorem Zjv:FnScope ["stems","text","start"] ["stems","text"] (Zah s_K0):=by walk_at "sc"
theorem Zng (T:TL K mg base a tb):FnOk P w K mg base CX0 1 a.f_K0 a.d_K0 ["stems","text"] (Zmr K a):=by
 refine T.f_K0.ok Zjv (fun vs H Q E h=>?_) (fun cdv A outer s H vs Q E hr h=>?_)
 ·obtain⟨_,_,_,_,rfl,_⟩:=h;rfl
 ·have hu64:=hr.units
  have hu1:=ZaN hr
  obtain⟨p,kvs,ws,u,rfl,hp,sd,hu,q⟩:=h
  refine⟨_,(Zac (Zam (i:=2) Zjv.nd rfl (Or.inl rfl) Zaj)
   (Zac (Zdp PassesOwn.never (Zfv (Zd8 hu1 (Za1 ZcR (pv 1) (Za2 (pv 2)) Zbq) (pv 0)))
   (Zag (ZiK (i:=2) Zjv.nd rfl (Or.inl rfl) Zaj ZiR)))
   (Zag (Zay (Za1 ZcR (pv 1) (Za2 (pv 2)) Zbq))))),?_⟩
  have sz:∀k:Nat,k≤1000→k≤sizeLine:=fun k h=>Nat.le_trans h (by rw[sizeLine_eq];decide)
  walk_at "rd"
  refine WhileRun.by (fun σ H'=>∃d:Nat,σ=[some (.ref p),some (tx u),some (.int d)]∧Same H H'∧d≤u.length∧∀j,j<d→¬Stem ws (u.drop j)) (fun σ H'=>match σ with | [_,_,some (.int d)]=>u.length-d.toNat | _=>0) ⟨0,rfl,Same.refl _,Nat.zero_le _,fun j h=>by omega⟩ ?_
  rintro σ H1 ⟨d,rfl,s1,hd,nd⟩
  refine⟨!(valV kvs (kTx (u.drop d))).isSome,fun Q' hq=>?_,fun H2 s2=>?_⟩
  ·walk_at "rd"
   refine⟨_,rfl,u,rfl,sz _ hu,?_⟩
   rw[Zb1]
   exact⟨p,_,rfl,.inl ⟨kvs,kTx (u.drop d),hp.same s1,rfl,rfl⟩,hq H1 (Same.refl _)⟩
  ·cases e:(valV kvs (kTx (u.drop d))).isSome with
   | true=>
    refine iteF ?_
    walk_at "rd"
    refine⟨_,rfl,u,rfl,sz _ hu,?_⟩
    rw[Zb1]
    exact q _ H2 (s1.trans s2) ⟨d,hd,rfl,(sd.iff _).mp e,nd⟩
   | false=>
    refine iteT ?_
    have ns:¬Stem ws (u.drop d):=fun z=>by rw[(sd.iff _).mpr z]at e;cases e
    have lt:d<u.length:=by
     by_cases c:d<u.length
     ·exact c
     ·exact absurd (.inl (List.drop_eq_nil_of_le (by omega))) ns
    walk_at "rd"
    refine⟨_,_,rfl,rfl,⟨d+1,rfl,s1.trans s2,lt,fun j hj=>?_⟩,?_⟩
    ·by_cases c:j=d
     ·subst c;exact ns
     ·exact nd j (by omega)
    ·show u.length-((d:Int)+1).toNat<u.length-(d:Int).toNat
     omega
theorem ZcS:FnScope ["ways","sources","left","stem","reached","ended","at"] ["ways"] (Zah s_K6):=by walk_at "sc"
theorem Znc (T:TL K mg base a tb):FnOk P w K mg base CX0 1 a.f_K6 a.d_K6 ["ways"] (Zmm K a):=by
 refine T.f_K6.ok ZcS (fun vs H Q E h=>?_) (fun cdv A outer s H vs Q E hr h=>?_)
 ·obtain⟨_,_,_,_,_,_,rfl,_⟩:=h;rfl
 ·have hu64:=hr.units
  have hu1:=ZaN hr
  obtain⟨p,kw,ws,ss,l,m,rfl,hp,wl,sl,ok,lk,q⟩:=h
  refine⟨_,(Zac (Zam (i:=1) ZcS.nd rfl (Or.inl rfl) Zbx)
   (Zai (Zac (Zam (i:=2) ZcS.nd rfl (Or.inr rfl) Zbx)
   (Zac (Zb3 (ZaM PassesOwn.never rfl (Zct (pv 0)) (Zaq (i:=3) ZcS.nd rfl (Or.inl rfl))
   (Zai (Zac (ZbG hu1 (pv 2) (pv 3) (Zan ZhF rfl T.z_len ZaT (Zaa (Zbe hu1 (pv 0) (pv 3) (fun _ _=>rfl)) Zae)) rfl)
   (Zag (Zb3 (ZaM PassesOwn.never rfl (ZgY (Zbe hu1 (pv 0) (pv 3) (fun _ _=>rfl))) (Zaq (i:=4) ZcS.nd rfl (Or.inl rfl))
   (Zai (Zag (ZaU (ZeW PySem.F.plainAttrs_list PySem.F.slot_list_append PySem.F.type_list_append Zbk (ZcT (pv 1) (pv 4) (Zcb Zae) ⟨rfl,rfl,rfl,rfl⟩) (Zaa (pv 3) Zae))))))))))))
   (Zac (Zb3 (ZgV (i:=5) (N:=["stem","left"]) (ix:=[none,some 2]) rfl ZcS.nd rfl rfl rfl (ZbB rfl) rfl (Zct (pv 0)) (fun _ _ _ _=>(Zaq (i:=0) (show (["stem","left"]:List Str).Nodup from by decide +kernel) rfl (Or.inl rfl) (Or.inr rfl))) (fun _ _ _ _=>(Zfx (Zaw (Za8 (K:=K) rfl hu64) (Zbe hu1 (pv 1) (pv 0) (fun _ _=>rfl)) Zaj (ZaH _)))) (fun _ _ _ _=>(pv 0))))
   (Zai (Zac (Zam (i:=6) ZcS.nd rfl (Or.inl rfl) Zaj)
   (Zai (Zac (Zdp PassesOwn.never (Zaw ZjC (pv 6) (Zan (Zap (K:=K) rfl) rfl T.z_len ZaT (Zaa (pv 5) Zae)) (ZaH _))
   (Zac (Zam (i:=4) ZcS.nd rfl (Or.inl rfl) (Zf8 (ZfJ (K:=K) rfl) (pv 5) (pv 6) (fun _ _=>rfl)))
   (Zai (Zac (ZaM PassesOwn.never rfl (ZaV (K:=K) rfl (Zh4 hu1 (pv 1) (pv 4) (Zcb Zae) ⟨rfl,rfl,rfl,rfl⟩)) (Zaq (i:=3) ZcS.nd rfl (Or.inl rfl))
   (Zac (Zjy hu1 (pv 2) (pv 3) Zaj Zlt (fun _ _ _=>rfl))
   (Zai (Zag (Zbj (Zaw (Za8 (K:=K) rfl hu64) (Zbe hu1 (pv 2) (pv 3) (fun _ _=>rfl)) Zaj (ZaH _)) (Zai (Zag (ZaU (ZeW PySem.F.plainAttrs_list PySem.F.slot_list_append PySem.F.type_list_append Zbk (pv 5) (Zaa (pv 3) Zae))))) ZaB)))))
   (Zai (Zag (ZiK (i:=6) ZcS.nd rfl (Or.inl rfl) Zaj ZiR)))))))
   (Zag (Zay (pv 5)))))))))))),?_⟩
  have sz:∀k:Nat,k≤100000→k≤sizeLine:=fun k h=>Nat.le_trans h (by rw[sizeLine_eq];decide)
  have m4:=ok.m4
  have sl82:=sl.len
  walk_at "rd"
  intro pS nS
  have s1:Same H (upd H pS (.dK [])):=Zav nS
  have l1:upd H pS (.dK []) pS=some (.dK []):=Zad
  generalize upd H pS (.dK [])=H1 at s1 l1
  refine Zal ?_
  walk_at "rd"
  intro pL nL
  have s2:Same H1 (upd H1 pL (.dK [])):=Zav nL
  have l2:upd H1 pL (.dK []) pL=some (.dK []):=Zad
  have nL0:H pL=none:=s1.free nL
  have nSL:pS≠pL:=Zaf l1 nL
  generalize upd H1 pL (.dK [])=H2 at s2 l2
  have s02:=s1.trans s2
  have npS:p≠pS:=Zaf hp nS
  have npL:p≠pL:=Zaf hp nL0
  have hp2:=s02 _ _ hp
  refine⟨p,kw,hp2,p,kw,rfl,hp2,fun o=>ForRun.dict (fun i σ H'=>∃v3 v4 kS kL,σ=[some (.ref p),some (.ref pS),some (.ref pL),v3,v4,none,none]∧SameX p H H'∧H' p=some (.frz o (.dK kw))∧H' pS=some (.dK kS)∧SrcAt H H' pS pL kS (edges ws m (ss.take i))∧H' pL=some (.dK kL)∧ZeF kL (ss.take i) (fun s=>(outS ws m s).length)∧kL.length≤i) ⟨_,_,[],[],rfl,?_,Zad,?_,?_,?_,?_,?_⟩ (fun i σ H' ⟨_,_,_,_,_,_,h,_⟩=>h) ?_ ?_⟩
  ·exact(ZmH s02).updX
  ·rw[Zab (Ne.symm npS)];exact s2 _ _ l1
  ·rw[List.take_zero]
   exact⟨fun r _=>rfl,fun r v h=>(by cases h),fun r r' a h=>(by cases h),Nat.zero_le _⟩
  ·rw[Zab (Ne.symm npL)];exact l2
  ·rw[List.take_zero];exact fun s h=>(by cases h)
  ·exact Nat.le_refl _
  ·rintro i kv σ H3 hkv ⟨v3,v4,kS,kL,rfl,s3,f3,h3,sr,hL3,la,nk⟩
   have il:=(List.getElem?_eq_some_iff.mp hkv).1
   have il2:i<ss.length:=by rw[←wl.1];exact il
   obtain⟨u,hu⟩:∃u,ss[i]?=some u:=⟨_,List.getElem?_eq_getElem (by rw[←wl.1];exact il)⟩
   obtain⟨au,ekv,na,hau⟩:=wl.2 i u hu
   rw[hkv]at ekv
   cases ekv
   rw[Zgl]
   walk_at "rd"
   refine Zal ?_
   walk_at "rd"
   have mu:u∈ss:=List.mem_of_getElem? hu
   have v3:valV kw (kTx u)=some (.ref au):=Zdi (by rw[wl.keys];exact Zbs sl.nd fun x _ y _ e=>ZaI e) hkv
   have au3:H3 au=some (.dK ((onw ws m u).map wayK)):=s3 _ _ na hau
   have nauS:au≠pS:=Zaf hau nS
   have nauL:au≠pL:=Zaf hau nL0
   have tk1:ss.take (i+1)=ss.take i++[u]:=ZaC hu
   have nui:u∉ss.take i:=Zby sl.nd hu
   refine⟨p,.ref au,rfl,.inl ⟨kw,kTx u,.inr ⟨o,f3⟩,rfl,v3.symm⟩,au,_,rfl,au3,pL,_,rfl,DPut.k (k:=kTx u) hL3 (Nat.lt_of_lt_of_le (show _<100000 by omega) (sz 100000 (Nat.le_refl _))),?_⟩
   have lo:((onw ws m u).map wayK).length=(outS ws m u).length:=by unfold outS;rw[List.length_map,List.length_map]
   rw[lo]
   have la4:ZeF (putK kL (kTx u) (.int ((outS ws m u).length:Nat))) (ss.take (i+1)) (fun s=>(outS ws m s).length):=fun s hs=>by
    rw[ZaO]
    by_cases e:s=u
    ·rw[if_pos (by rw[e]),e]
    ·rw[if_neg (fun z=>e (ZaI z))]
     rw[tk1]at hs
     rcases List.mem_append.mp hs with z | z
     ·exact la s z
     ·exact absurd (List.mem_singleton.mp z) e
   have nk4:(putK kL (kTx u) (.int ((outS ws m u).length:Nat))).length≤i+1:=by
    have:=ZaA kL (kTx u) (.int ((outS ws m u).length:Nat))
    omega
   have s4:SameX p H (upd H3 pL (.dK (putK kL (kTx u) (.int ((outS ws m u).length:Nat))))):=s3.updN nL0
   have p4:upd H3 pL (.dK (putK kL (kTx u) (.int ((outS ws m u).length:Nat)))) p=some (.frz o (.dK kw)):=by rw[Zab npL];exact f3
   have S4:upd H3 pL (.dK (putK kL (kTx u) (.int ((outS ws m u).length:Nat)))) pS=some (.dK kS):=by rw[Zab nSL];exact h3
   have L4:upd H3 pL (.dK (putK kL (kTx u) (.int ((outS ws m u).length:Nat)))) pL=some (.dK (putK kL (kTx u) (.int ((outS ws m u).length:Nat)))):=Zad
   have sr4:SrcAt H (upd H3 pL (.dK (putK kL (kTx u) (.int ((outS ws m u).length:Nat))))) pS pL kS (edges ws m (ss.take i)):=sr.keep fun a' xs e=>by
    have n':a'≠pL:=fun z=>by rw[z,hL3]at e;cases e
    rw[Zab n'];exact e
   have a4:upd H3 pL (.dK (putK kL (kTx u) (.int ((outS ws m u).length:Nat)))) au=some (.dK ((onw ws m u).map wayK)):=by rw[Zab nauL];exact au3
   generalize upd H3 pL (.dK (putK kL (kTx u) (.int ((outS ws m u).length:Nat))))=H4 at s4 p4 S4 L4 sr4 a4
   generalize putK kL (kTx u) (.int ((outS ws m u).length:Nat))=kL4 at la4 nk4 L4
   refine⟨au,_,a4,p,.ref au,rfl,.inl ⟨kw,kTx u,.inr ⟨o,p4⟩,rfl,v3.symm⟩,au,_,rfl,a4,fun o1=>ZjZ (fun j σ H'=>∃v4 kS,σ=[some (.ref p),some (.ref pS),some (.ref pL),some (tx u),v4,none,none]∧(∀b x,b≠p→b≠au→H b=some x→H' b=some x)∧H' p=some (.frz o (.dK kw))∧H' au=some (.frz o1 (.dK ((onw ws m u).map wayK)))∧H' pS=some (.dK kS)∧SrcAt H H' pS pL kS (edges ws m (ss.take i)++((outS ws m u).take j).map fun r=>(r,u))∧H' pL=some (.dK kL4)) ⟨_,kS,rfl,?_,?_,Zad,?_,?_,?_⟩ (fun j σ H' ⟨_,_,_,_,_,h,_⟩=>h) ?_ ?_⟩
   ·intro b x n1 n2 e
    rw[Zab n2];exact s4 b x n1 e
   ·rw[Zab (Ne.symm na)];exact p4
   ·rw[Zab (Ne.symm nauS)];exact S4
   ·rw[List.take_zero,List.map_nil,List.append_nil]
    exact sr4.keep fun a' xs e=>by
     have n':a'≠au:=fun z=>by rw[z,a4]at e;cases e
     rw[Zab n'];exact e
   ·rw[Zab (Ne.symm nauL)];exact L4
   ·rintro j kv σ H5 hkv2 ⟨v4,kS5,rfl,s5,p5,a5,S5,sr5,L5⟩
    obtain⟨x,hx,rfl⟩:∃x,(onw ws m u)[j]?=some x∧kv=wayK x:=by
     rw[List.getElem?_map]at hkv2
     cases e:(onw ws m u)[j]? with
     | none=>rw[e]at hkv2;cases hkv2
     | some x=>rw[e]at hkv2;cases hkv2;exact⟨x,rfl,rfl⟩
    have hr:(outS ws m u)[j]?=some x.2:=by unfold outS;rw[List.getElem?_map,hx];rfl
    show ZbK 4 (tx x.2) _ _ _
    generalize x.2=r at hr
    walk_at "rd"
    refine Zal ?_
    walk_at "rd"
    have kl5:kS5.length<100000:=by
     have:=sr5.len
     have e1:=ZgK (ws:=ws) (m:=m) (r:=[]) (ss:=ss.take i) m4 (by rw[List.length_take];omega)
     rw[List.length_append,List.length_map,List.length_take]at this
     have e2:(outS ws m u).length≤4:=by
      unfold outS onw onwC
      rw[List.length_map,List.length_map]
      exact Nat.le_trans (List.length_filter_le _ _) m4
     omega
    have tj:((outS ws m u).take (j+1)).map (fun r=>(r,u))=((outS ws m u).take j).map (fun r=>(r,u))++[(r,u)]:=by rw[ZaC hr,List.map_append];rfl
    refine⟨pS,rfl,.inl ⟨kS5,.inl S5⟩,Nat.zero_le _,NewL.of fun z H6 s6 nz z6=>⟨kS5,kTx r,s6 _ _ S5,rfl,Nat.lt_of_lt_of_le kl5 (sz 100000 (Nat.le_refl _)),fun v hv=>?_,fun hv=>?_⟩⟩
    ·obtain⟨a',rfl,na0,naS,naL,ha⟩:=sr5.yes r v hv
     have ha6:=s6 _ _ ha
     have sr6:=(sr5.keep (H'':=H6) fun a xs e=>s6 _ _ e).old (s:=u) hv
     refine⟨.inl ⟨rfl,_,.mk ha6⟩,a',_,tx u,rfl,rfl,ha6,?_,_,kS5,rfl,?_,?_,?_,?_,?_,?_⟩
     ·rw[List.length_map]
      have e0:=ZgL (edges ws m (ss.take i)++((outS ws m u).take j).map fun r=>(r,u)) r
      have e1:=ZgK (ws:=ws) (m:=m) (r:=[]) (ss:=ss.take i) m4 (by rw[List.length_take];omega)
      have e2:(outS ws m u).length≤4:=by
       unfold outS onw onwC
       rw[List.length_map,List.length_map]
       exact Nat.le_trans (List.length_filter_le _ _) m4
      rw[List.length_append,List.length_map,List.length_take]at e0
      exact Nat.lt_of_lt_of_le (show _<100000 by omega) (sz 100000 (Nat.le_refl _))
     ·intro b x n1 n2 e
      rw[Zab (Zaf e na0)];exact s6 _ _ (s5 b x n1 n2 e)
     ·rw[Zab (Zaf hp na0)];exact s6 _ _ p5
     ·rw[Zab (Zaf hau na0)];exact s6 _ _ a5
     ·rw[Zab (Ne.symm naS)];exact s6 _ _ S5
     ·rw[tj,←List.append_assoc];exact sr6
     ·rw[Zab (Ne.symm naL)];exact s6 _ _ L5
    ·have nzS:pS≠z:=Zaf S5 nz
     have nzL:pL≠z:=Zaf L5 nz
     have nzp:p≠z:=Zaf p5 nz
     have nza:au≠z:=Zaf a5 nz
     have nzH:H z=none:=by
      cases e:H z with
      | none=>rfl
      | some x=>rw[s5 z x (Ne.symm nzp) (Ne.symm nza) e]at nz;cases nz
     have z7:upd H6 pS (.dK (putK kS5 (kTx r) (.ref z))) z=some (.lst []):=by rw[Zab (Ne.symm nzS)];exact z6
     refine⟨.inl ⟨rfl,_,.mk z7⟩,z,[],tx u,rfl,rfl,z7,sz 1 (by decide),_,putK kS5 (kTx r) (.ref z),rfl,?_,?_,?_,?_,?_,?_⟩
     ·intro b x n1 n2 e
      rw[Zab (Zaf e nzH),Zab (Zaf e nS)];exact s6 _ _ (s5 b x n1 n2 e)
     ·rw[Zab nzp,Zab npS];exact s6 _ _ p5
     ·rw[Zab nza,Zab nauS];exact s6 _ _ a5
     ·rw[Zab nzS,Zad]
     ·rw[tj,←List.append_assoc]
      refine sr5.new hv nzH nz (Ne.symm nzS) (Ne.symm nzL) (fun a xs n e=>?_) Zad
      have e6:=s6 _ _ e
      have nS':a≠pS:=fun z=>by rw[z,S5]at e;cases e
      rw[Zab n,Zab nS'];exact e6
     ·rw[Zab nzL,Zab (Ne.symm nSL)];exact s6 _ _ L5
   ·rintro σ H5 ⟨v4,kS5,rfl,s5,p5,a5,S5,sr5,L5⟩
    have lo2:((onw ws m u).map wayK).length=(outS ws m u).length:=lo
    rw[lo2,List.take_length,←Zgr,←tk1]at sr5
    refine⟨o1,_,a5,_,_,kS5,kL4,rfl,?_,?_,?_,?_,?_,la4,nk4⟩
    ·intro b x n e
     by_cases c:b=au
     ·subst c
      rw[hau]at e
      cases e
      rw[Zad]
     ·rw[Zab c];exact s5 b x n c e
    ·rw[Zab (Ne.symm na)];exact p5
    ·rw[Zab (Ne.symm nauS)];exact S5
    ·exact sr5.keep fun a' xs e=>by
      have n':a'≠au:=fun z=>by rw[z,a5]at e;cases e
      rw[Zab n'];exact e
    ·rw[Zab (Ne.symm nauL)];exact L5
  ·rintro σ H3 ⟨v3,v4,kS,kL,rfl,s3,f3,h3,sr,hL3,la,nk⟩
   rw[wl.1,List.take_length]at sr la
   refine⟨o,kw,f3,?_⟩
   walk_at "rd"
   have s4:Same H (upd H3 p (.dK kw)):=s3.updX.same hp Zad
   have S4:upd H3 p (.dK kw) pS=some (.dK kS):=by rw[Zab (Ne.symm npS)];exact h3
   have L4:upd H3 p (.dK kw) pL=some (.dK kL):=by rw[Zab (Ne.symm npL)];exact hL3
   have sr4:SrcAt H (upd H3 p (.dK kw)) pS pL kS (edges ws m ss):=sr.keep fun a' xs e=>by
    have n':a'≠p:=fun z=>by rw[z,f3]at e;cases e
    rw[Zab n'];exact e
   have p4:upd H3 p (.dK kw) p=some (.dK kw):=Zad
   generalize upd H3 p (.dK kw)=H4 at s4 S4 L4 sr4 p4
   refine⟨p,kw,p4,p,kw,rfl,p4,fun o2=>CompRun.keys (fun i=>decide ((outS ws m (ss.getD i [])).length=0)) (fun i=>tx (ss.getD i [])) (by rw[wl.1];omega) Zad ?_ ?_ ?_⟩
   ·intro i kv H5 Q5 hkv s5 q5
    have il:=(List.getElem?_eq_some_iff.mp hkv).1
    obtain⟨u,hu⟩:∃u,ss[i]?=some u:=⟨_,List.getElem?_eq_getElem (by rw[←wl.1];exact il)⟩
    obtain⟨au,ekv,_⟩:=wl.2 i u hu
    rw[hkv]at ekv
    cases ekv
    have gd:ss.getD i []=u:=by rw[List.getD_eq_getElem?_getD,hu];rfl
    rw[gd]at q5
    have L5:H5 pL=some (.dK kL):=s5 _ _ (by rw[Zab (Ne.symm npL)];exact L4)
    rw[Zgl]
    walk_at "rd"
    refine⟨pL,_,rfl,.inl ⟨kL,kTx u,.inl L5,rfl,(la u (List.mem_of_getElem? hu)).symm⟩,ZlE ⟨_,rfl,q5 H5 (Same.refl _)⟩⟩
   ·intro i kv H5 Q5 hkv _ s5 q5
    have il:=(List.getElem?_eq_some_iff.mp hkv).1
    obtain⟨u,hu⟩:∃u,ss[i]?=some u:=⟨_,List.getElem?_eq_getElem (by rw[←wl.1];exact il)⟩
    obtain⟨au,ekv,_⟩:=wl.2 i u hu
    rw[hkv]at ekv
    cases ekv
    have gd:ss.getD i []=u:=by rw[List.getD_eq_getElem?_getD,hu];rfl
    rw[gd]at q5
    rw[Zgl]
    walk_at "rd"
    exact q5 H5 (Same.refl _)
   ·intro pe H5 s5 n5 l5
    rw[wl.1,Zhx [] (fun s=>decide ((outS ws m s).length=0)) tx ss]at l5
    have npe:pe≠p:=fun z=>by rw[z,Zad]at n5;cases n5
    have n4:H4 pe=none:=by rw[Zab npe]at n5;exact n5
    have nH:H pe=none:=s4.free n4
    have npeS:pS≠pe:=Zaf S4 n4
    have npeL:pL≠pe:=Zaf L4 n4
    have src_ne:∀r a,valV kS (kTx r)=some (.ref a)→a≠pe:=fun r a hv=>by
     obtain⟨a',e,_,_,_,ha⟩:=sr4.yes r _ hv
     cases e
     exact Zaf ha n4
    refine⟨o2,kw,s5 _ _ Zad,?_⟩
    have s46:Same H4 (upd H5 p (.dK kw)):=Same.thaw (H1:=H4) p4 s5
    have pe6:upd H5 p (.dK kw) pe=some (.lst ((ss.filter fun s=>decide ((outS ws m s).length=0)).map tx)):=by rw[Zab npe];exact l5
    generalize upd H5 p (.dK kw)=H6 at s46 pe6
    walk_at "rd"
    refine Zal ?_
    walk_at "rd"
    refine Zal ?_
    walk_at "rd"
    have k82:kL.length≤8201:=by rw[wl.1]at nk;omega
    refine WhileRun.by (fun σ H'=>∃(v3 v4:Option V) (n:Nat) (es:List Wd) (f:Wd→Nat) (kL:List (Key×V)),σ=[some (.ref p),some (.ref pS),some (.ref pL),v3,v4,some (.ref pe),some (.int n)]∧Same H H'∧H' pS=some (.dK kS)∧SrcAt H H' pS pL kS (edges ws m ss)∧H' pL=some (.dK kL)∧ZeF kL ss f∧kL.length≤8201∧H' pe=some (.lst (es.map tx))∧KI ss (outS ws m) n es f) (fun σ _=>match σ with | [_,_,_,_,_,_,some (.int n)]=>ss.length-n.toNat | _=>0) ⟨_,_,0,_,fun s=>(outS ws m s).length,kL,rfl,s4.trans s46,s46 _ _ S4,sr4.keep fun a xs e=>s46 _ _ e,s46 _ _ L4,la,k82,pe6,KI.start sl.nd fun s _=>rfl⟩ ?_
    rintro σ H7 ⟨v3,v4,n,es,f,kL,rfl,s7,S7,sr7,L7,la7,kl7,e7,ki⟩
    have esl:es.length≤ss.length:=Zcf es ss ki.nd ki.sub
    refine⟨decide (n<es.length),fun Q' hq=>?_,fun H8 s8=>?_⟩
    ·walk_at "rd"
     refine⟨_,_,rfl,.inl ⟨_,.mk e7,rfl⟩,?_⟩
     rw[List.length_map]
     have e:decide ((n:Int)<((es.length:Nat):Int))=decide (n<es.length):=by rw[decide_eq_decide];omega
     rw[e]
     exact hq H7 (Same.refl _)
    ·by_cases c:n<es.length
     ·rw[decide_eq_true c]
      refine iteT ?_
      walk_at "rd"
      obtain⟨r,hr⟩:∃r,es[n]?=some r:=⟨_,List.getElem?_eq_getElem c⟩
      refine⟨pe,es.map tx,n,tx r,rfl,rfl,.mk (s8 _ _ e7),Zkc (by rw[List.getElem?_map,hr];rfl),?_⟩
      show Zbp _ _ _ _
      refine Zal ?_
      walk_at "rd"
      have s08:=s7.trans s8
      refine⟨pS,rfl,.inl ⟨kS,.inl (s8 _ _ S7)⟩,Nat.zero_le _,NewL.of fun z H9 s9 nz z9=>⟨_,.inl ⟨kS,kTx r,.inl (s9 _ _ (s8 _ _ S7)),rfl,rfl⟩,?_⟩⟩
      have s89:=s8.trans s9
      have L9:=s89 _ _ L7
      have e9:=s89 _ _ e7
      have sr9:SrcAt H H9 pS pL kS (edges ws m ss):=sr7.keep fun a xs e=>s89 _ _ e
      obtain⟨al,eal,hal,nalL,nalE⟩:∃al,((valV kS (kTx r)).getD (.ref z))=.ref al∧H9 al=some (.lst ((srcOf (edges ws m ss) r).map tx))∧al≠pL∧al≠pe:=by
       cases hv:valV kS (kTx r) with
       | none=>
        refine⟨z,rfl,?_,Ne.symm (Zaf (s8 _ _ L7) nz),Ne.symm (Zaf (s8 _ _ e7) nz)⟩
        rw[sr9.no r hv];exact z9
       | some v=>
        obtain⟨a',rfl,h1,h2,h3,h4⟩:=sr9.yes r v hv
        exact⟨a',rfl,h4,h3,src_ne r a' hv⟩
      rw[eal]
      have s09:=s7.trans s89
      have kj:=ki.enter (S:=srcOf (edges ws m ss) r) hr (fun s hs=>ZdY sl.nd hs)
      refine⟨al,rfl,⟨_,.mk hal⟩,ForRun.list (xs:=(srcOf (edges ws m ss) r).map tx) (fun j σ H'=>∃(v3:Option V) (es:List Wd) (f:Wd→Nat) (kL:List (Key×V)),σ=[some (.ref p),some (.ref pS),some (.ref pL),v3,some (tx r),some (.ref pe),some (.int n)]∧Same H H'∧H' al=some (.lst ((srcOf (edges ws m ss) r).map tx))∧H' pS=some (.dK kS)∧SrcAt H H' pS pL kS (edges ws m ss)∧H' pL=some (.dK kL)∧ZeF kL ss f∧kL.length≤8201∧H' pe=some (.lst (es.map tx))∧KJ ss (outS ws m) n r (srcOf (edges ws m ss) r) j es f) ⟨_,es,f,kL,rfl,s09,hal,s89 _ _ S7,sr9,L9,la7,kl7,e9,kj⟩ (fun j σ H' _ ⟨_,_,_,_,_,_,h,_⟩=>.mk h) ?_ ?_⟩
      ·rintro j x σ G1 hx ⟨v3,es,f,kL,rfl,g1,al1,S1,sr1,L1,la1,kl1,e1,kj⟩
       obtain⟨s_,hs,rfl⟩:=Zcw hx
       have ms:s_∈ss:=ZgJ (List.mem_of_getElem? hs)
       have fp:=kj.pos hs ms
       have vs:=la1 s_ ms
       walk_at "rd"
       refine⟨pL,_,rfl,.inl ⟨kL,kTx s_,.inl L1,rfl,vs.symm⟩,_,_,rfl,rfl,_,DPut.k (k:=kTx s_) L1 (Nat.lt_of_lt_of_le (show _<100000 by omega) (sz 100000 (Nat.le_refl _))),?_⟩
       have fe:((f s_:Nat):Int)-1=((f s_-1:Nat):Int):=by omega
       rw[fe]
       have g2:Same H (upd G1 pL (.dK (putK kL (kTx s_) (.int ((f s_-1:Nat):Int))))):=same_upd3 g1 nL0
       have al2:upd G1 pL (.dK (putK kL (kTx s_) (.int ((f s_-1:Nat):Int)))) al=some (.lst ((srcOf (edges ws m ss) r).map tx)):=by rw[Zab nalL];exact al1
       have S2:upd G1 pL (.dK (putK kL (kTx s_) (.int ((f s_-1:Nat):Int)))) pS=some (.dK kS):=by rw[Zab nSL];exact S1
       have sr2:SrcAt H (upd G1 pL (.dK (putK kL (kTx s_) (.int ((f s_-1:Nat):Int))))) pS pL kS (edges ws m ss):=sr1.keep fun a' xs e=>by
        have n':a'≠pL:=fun z=>by rw[z,L1]at e;cases e
        rw[Zab n'];exact e
       have L2:upd G1 pL (.dK (putK kL (kTx s_) (.int ((f s_-1:Nat):Int)))) pL=some (.dK (putK kL (kTx s_) (.int ((f s_-1:Nat):Int)))):=Zad
       have e2:upd G1 pL (.dK (putK kL (kTx s_) (.int ((f s_-1:Nat):Int)))) pe=some (.lst (es.map tx)):=by rw[Zab (Ne.symm npeL)];exact e1
       generalize upd G1 pL (.dK (putK kL (kTx s_) (.int ((f s_-1:Nat):Int))))=G2 at g2 al2 S2 sr2 L2 e2
       have kl2:(putK kL (kTx s_) (.int ((f s_-1:Nat):Int))).length≤8201:=by rw[Zfu vs];exact kl1
       obtain⟨k0,k1⟩:=kj.next hs ms (fun t=>if t=s_ then f s_-1 else f t) (fun t=>rfl)
       have gs:(if s_=s_ then f s_-1 else f s_)=f s_-1:=if_pos rfl
       have la2:ZeF (putK kL (kTx s_) (.int ((f s_-1:Nat):Int))) ss (fun t=>if t=s_ then f s_-1 else f t):=fun t ht=>by
        show _=some (V.int ((if t=s_ then f s_-1 else f t:Nat):Int))
        rw[ZaO]
        by_cases e:t=s_
        ·rw[if_pos (by rw[e]),if_pos e]
        ·rw[if_neg (fun z=>e (ZaI z)),if_neg e];exact la1 t ht
       have v2:valV (putK kL (kTx s_) (.int ((f s_-1:Nat):Int))) (kTx s_)=some (.int ((f s_-1:Nat):Int)):=by rw[ZaO,if_pos rfl]
       refine Zal ?_
       walk_at "rd"
       refine⟨pL,_,rfl,.inl ⟨_,kTx s_,.inl L2,rfl,v2.symm⟩,ZlE ⟨_,rfl,ite2 (fun h0=>Zal ?_) (fun h0=>?_)⟩⟩
       ·have z0:f s_-1=0:=of_decide_eq_true h0
        have kj2:=k0 (gs.trans z0)
        have esl2:=Zcf es ss kj.nd kj.sub
        walk_at "rd"
        refine⟨.inl ⟨rfl,_,.mk e2⟩,pe,_,_,rfl,rfl,e2,by rw[List.length_map];exact Nat.lt_of_lt_of_le (show _<100000 by omega) (sz 100000 (Nat.le_refl _)),_,es++[s_],_,_,rfl,same_upd3 g2 nH,by rw[Zab nalE];exact al2,by rw[Zab npeS];exact S2,?_,by rw[Zab npeL];exact L2,la2,kl2,by rw[Zad,List.map_append];rfl,kj2⟩
        refine⟨sr2.no,fun r v hv=>?_,sr2.inj,sr2.len⟩
        obtain⟨a',rfl,h1,h2,h3,h4⟩:=sr2.yes r v hv
        exact⟨a',rfl,h1,h2,h3,by rw[Zab (src_ne r a' hv)];exact h4⟩
       ·have z0:f s_-1≠0:=fun z=>h0 (decide_eq_true z)
        exact⟨_,es,_,_,rfl,g2,al2,S2,sr2,L2,la2,kl2,e2,k1 (by rw[gs];exact z0)⟩
      ·rintro σ G1 ⟨v3,es,f,kL,rfl,g1,al1,S1,sr1,L1,la1,kl1,e1,kj⟩
       rw[List.length_map]at kj
       have ki':=kj.leave
       refine Zal ?_
       walk_at "rd"
       refine⟨_,rfl,_,_,rfl,rfl,⟨_,_,n+1,es,f,kL,rfl,g1,S1,sr1,L1,la1,kl1,e1,ki'⟩,?_⟩
       show ss.length-((n:Int)+1).toNat<ss.length-(n:Int).toNat
       omega
     ·rw[decide_eq_false c]
      refine iteF ?_
      walk_at "rd"
      have en:n=es.length:=by have:=ki.le;omega
      subst en
      exact q pe es H8 (s7.trans s8) nH (s8 _ _ e7) (Zj1 ok lk sl ki)
theorem ZgP:FnScope ["ways","ended","longest","stem","letter","word"] ["ways","ended"] (Zah s_KW):=by walk_at "sc"
theorem ZmZ (T:TL K mg base a tb):FnOk P w K mg base CX0 1 a.f_KW a.d_KW ["ways","ended"] (Zl1 K a):=by
 refine T.f_KW.ok ZgP (fun vs H Q E h=>?_) (fun cdv A outer s H vs Q E hr h=>?_)
 ·obtain⟨_,_,_,_,_,_,_,_,rfl,_⟩:=h;rfl
 ·have hu64:=hr.units
  have hu1:=ZaN hr
  obtain⟨p,pq,kw,ws,ss,es,l,m,rfl,hp,wl,sl,ok,lk,hq,he,q⟩:=h
  refine⟨_,(Zac (Zam (i:=2) ZgP.nd rfl (Or.inl rfl) Zbx)
   (Zac (ZaM PassesOwn.never rfl (ZaV (K:=K) rfl (pv 1)) (Zaq (i:=3) ZgP.nd rfl (Or.inl rfl))
   (Zai (Zac (ZbG hu1 (pv 2) (pv 3) (Zbo (l:=[]) (by decide +kernel)) rfl)
   (Zai (Zag (Zb3 (ZaM PassesOwn.never rfl (Zct (Zbe hu1 (pv 0) (pv 3) (fun _ _=>rfl))) (Zaq (i:=4) ZgP.nd rfl (Or.inl rfl))
   (Zai (Zac (Zam (i:=5) ZgP.nd rfl (Or.inl rfl) (Zat ZaW (pv 4) (Zbe hu1 (pv 2) (Zbe hu1 (Zbe hu1 (pv 0) (pv 3) (fun _ _=>rfl)) (pv 4) (fun _ _=>rfl)) (fun _ _=>rfl))))
   (Zag (Zbj (Zaw Zgc (Zan (Zap (K:=K) rfl) rfl T.z_len ZaT (Zaa (pv 5) Zae)) (Zan (Zap (K:=K) rfl) rfl T.z_len ZaT (Zaa (Zbe hu1 (pv 2) (pv 3) (fun _ _=>rfl)) Zae)) (ZaH _)) (Zai (Zag (ZbG hu1 (pv 2) (pv 3) (pv 5) rfl))) ZaB)))))))))))
   (Zai (Zag (Zay (Zbe hu1 (pv 2) (Zbo (l:=[]) (by decide +kernel)) (fun _ _=>rfl))))))),?_⟩
  have sz:∀k:Nat,k≤100000→k≤sizeLine:=fun k h=>Nat.le_trans h (by rw[sizeLine_eq];decide)
  have m4:=ok.m4
  have sl82:=sl.len
  have esl:es.length≤ss.length:=Zcf es ss he.nd he.sub
  walk_at "rd"
  intro pl nl
  have s1:Same H (upd H pl (.dK [])):=Zav nl
  have l1:upd H pl (.dK []) pl=some (.dK []):=Zad
  generalize upd H pl (.dK [])=H1 at s1 l1
  refine⟨pq,rfl,⟨_,.mk (s1 _ _ hq)⟩,ForRun.list (xs:=es.map tx) (fun i σ H'=>∃(v3 v4 v5:Option V) (kO:List (Key×V)),σ=[some (.ref p),some (.ref pq),some (.ref pl),v3,v4,v5]∧Same H H'∧H' pl=some (.dK kO)∧kO.length≤i∧∀s∈es.take i,∃x,valV kO (kTx s)=some (tx x)∧LW ws m s x) ⟨_,_,_,[],rfl,s1,l1,Nat.le_refl _,fun s h=>by rw[List.take_zero]at h;cases h⟩ (fun i σ H' _ ⟨_,_,_,_,_,s',_⟩=>.mk (s' _ _ hq)) ?_ ?_⟩
  ·rintro i x σ H2 hx ⟨v3,v4,v5,kO,rfl,s2,l2,n2,la⟩
   obtain⟨s_,hs,rfl⟩:=Zcw hx
   have il:=(List.getElem?_eq_some_iff.mp hs).1
   have ms:s_∈ss:=he.sub s_ (List.mem_of_getElem? hs)
   have hst:=(sl.iff s_).mp ms
   obtain⟨au,va,na,hau⟩:=wl.val sl.nd ms
   have nal:au≠pl:=Zaf hau nl
   have npl:p≠pl:=Zaf hp nl
   have ni:s_∉es.take i:=Zby he.nd hs
   walk_at "rd"
   refine Zal ?_
   walk_at "rd"
   refine⟨pl,_,rfl,DPut.k (k:=kTx s_) l2 (Nat.lt_of_lt_of_le (show _<100000 by omega) (sz 100000 (Nat.le_refl _))),Zal ?_⟩
   have s3:Same H (upd H2 pl (.dK (putK kO (kTx s_) (tx [])))):=same_upd3 s2 nl
   have l3:upd H2 pl (.dK (putK kO (kTx s_) (tx []))) pl=some (.dK (putK kO (kTx s_) (tx []))):=Zad
   have n3:(putK kO (kTx s_) (tx [])).length≤i+1:=by
    have:=ZaA kO (kTx s_) (tx [])
    omega
   have la3:∀s∈es.take i,∃x,valV (putK kO (kTx s_) (tx [])) (kTx s)=some (tx x)∧LW ws m s x:=fun s hs'=>by
    have:s≠s_:=fun z=>ni (z▸hs')
    rw[ZaO,if_neg (fun z=>this (ZaI z))];exact la s hs'
   have v3':valV (putK kO (kTx s_) (tx [])) (kTx s_)=some (tx []):=by rw[ZaO,if_pos rfl]
   generalize upd H2 pl (.dK (putK kO (kTx s_) (tx [])))=H3 at s3 l3
   generalize putK kO (kTx s_) (tx [])=kO3 at l3 n3 la3 v3'
   walk_at "rd"
   refine⟨au,_,s3 _ _ hau,p,.ref au,rfl,.inl ⟨kw,kTx s_,.inl (s3 _ _ hp),rfl,va.symm⟩,au,_,rfl,s3 _ _ hau,fun o=>ForRun.dict (fun j σ H'=>∃(v4 v5:Option V) (kO:List (Key×V)) (x:List Nat),σ=[some (.ref p),some (.ref pq),some (.ref pl),some (tx s_),v4,v5]∧(∀b y,b≠au→H b=some y→H' b=some y)∧H' au=some (.frz o (.dK ((onw ws m s_).map wayK)))∧H' pl=some (.dK kO)∧kO.length≤i+1∧(∀s∈es.take i,∃x,valV kO (kTx s)=some (tx x)∧LW ws m s x)∧valV kO (kTx s_)=some (tx x)∧PW ws m s_ j x) ⟨_,_,kO3,[],rfl,?_,Zad,?_,n3,la3,v3',PW.start (lk.stemAv hst)⟩ (fun j σ H' ⟨_,_,_,_,_,_,h,_⟩=>h) ?_ ?_⟩
   ·intro b y n e
    rw[Zab n];exact s3 _ _ e
   ·rw[Zab (Ne.symm nal)];exact l3
   ·rintro j kv σ H4 hkv ⟨v4,v5,kO4,x,rfl,s4,a4,l4,n4,la4,v4',pw⟩
    obtain⟨c,hc,rfl⟩:∃c,(onwC ws m s_)[j]?=some c∧kv=wayK (c,estOf ws (s_++[c])):=by
     unfold onw at hkv
     rw[List.map_map,List.getElem?_map]at hkv
     cases e:(onwC ws m s_)[j]? with
     | none=>rw[e]at hkv;cases hkv
     | some c=>rw[e]at hkv;cases hkv;exact⟨c,rfl,rfl⟩
    have eo:estOf ws (s_++[c])∈outS ws m s_:=by
     unfold outS onw
     exact List.mem_map.mpr ⟨_,List.mem_map.mpr ⟨c,List.mem_of_getElem? hc,rfl⟩,rfl⟩
    have et:=he.ord i s_ hs _ eo
    obtain⟨z,vz,lz⟩:=la4 _ et
    have lz40:=LW.len ok lk (ZfP (ZbZ ws (s_++[c]))) lz
    have vc:valV ((onw ws m s_).map wayK) (kTx [c])=some (tx (estOf ws (s_++[c]))):=Zdi (Zg4 (ZbY ok.k)) hkv
    have p4:H4 p=some (.dK kw):=s4 _ _ (Ne.symm na) hp
    obtain⟨w1,w2⟩:=pw.next hc lz
    have xl:x.length≤1000:=by
     have hm:∀c∈s_++x,c∈m:=fun c hc=>by
      rcases List.mem_append.mp hc with z | z
      ·exact lk.stem ok hst c z
      ·exact pw.mem c z
     have:=((lk.av hm).mp pw.av).len
     rw[List.length_append]at this
     have:=ok.l40
     omega
    show ZbK 4 (kV (kTx [c])) _ _ _
    rw[Zgl]
    walk_at "rd"
    refine Zal ?_
    walk_at "rd"
    refine⟨p,.ref au,rfl,.inl ⟨kw,kTx s_,.inl p4,rfl,va.symm⟩,au,_,rfl,.inl ⟨_,kTx [c],.inr ⟨o,a4⟩,rfl,vc.symm⟩,pl,_,rfl,.inl ⟨kO4,kTx (estOf ws (s_++[c])),.inl l4,rfl,vz.symm⟩,[c],z,rfl,rfl,sz _ (by rw[List.length_singleton];omega),?_⟩
    refine⟨_,_,rfl,ZbV (by rw[List.length_append,List.length_singleton];omega),pl,_,rfl,.inl ⟨kO4,kTx s_,.inl l4,rfl,v4'.symm⟩,_,_,rfl,ZbV (by omega),ite2 (fun h0=>Zal ?_) (fun h0=>?_)⟩
    ·have lt:x.length<(c::z).length:=by
      have:=of_decide_eq_true h0
      rw[List.length_append,List.length_singleton]at this
      rw[List.length_cons];omega
     walk_at "rd"
     refine⟨pl,_,rfl,DPut.k (k:=kTx s_) l4 (Nat.lt_of_lt_of_le (show _<100000 by omega) (sz 100000 (Nat.le_refl _))),_,_,putK kO4 (kTx s_) (tx (c::z)),c::z,rfl,?_,by rw[Zab nal];exact a4,Zad,by rw[Zfu v4'];exact n4,fun s hs'=>?_,by rw[ZaO,if_pos rfl],w1 lt⟩
     ·intro b y n e
      rw[Zab (Zaf e nl)];exact s4 b y n e
     ·have:s≠s_:=fun z=>ni (z▸hs')
      rw[ZaO,if_neg (fun z=>this (ZaI z))];exact la4 s hs'
    ·have lt:¬x.length<(c::z).length:=fun q=>h0 (decide_eq_true (by rw[List.length_append,List.length_singleton];rw[List.length_cons]at q;omega))
     exact⟨_,_,kO4,x,rfl,s4,a4,l4,n4,la4,v4',w2 lt⟩
   ·rintro σ H4 ⟨v4,v5,kO4,x,rfl,s4,a4,l4,n4,la4,v4',pw⟩
    have lo:((onw ws m s_).map wayK).length=(onwC ws m s_).length:=by unfold onw;rw[List.length_map,List.length_map]
    rw[lo]at pw
    refine⟨o,_,a4,_,_,_,kO4,rfl,?_,by rw[Zab (Ne.symm nal)];exact l4,n4,fun s hs'=>?_⟩
    ·intro b y e
     by_cases c:b=au
     ·subst c
      rw[hau]at e
      cases e
      rw[Zad]
     ·rw[Zab c];exact s4 b y c e
    ·rw[ZaC hs]at hs'
     rcases List.mem_append.mp hs' with z | z
     ·exact la4 s z
     ·rw[List.mem_singleton.mp z];exact⟨x,v4',pw.done⟩
  ·rintro σ H2 ⟨v3,v4,v5,kO,rfl,s2,l2,n2,la⟩
   rw[List.length_map,List.take_length]at la
   obtain⟨x,vx,lx⟩:=la [] he.nil
   have ex:=LW.text ok lk lx
   subst ex
   walk_at "rd"
   refine Zal ?_
   walk_at "rd"
   exact⟨pl,_,rfl,.inl ⟨kO,kTx [],.inl l2,rfl,vx.symm⟩,q H2 s2⟩
theorem ZmD:FnScope ["self"] ["self"] (Zah s_KF):=by walk_at "sc"
theorem Zm8 (T:TL K mg base a tb):FnOk P w K mg base CX0 1 a.g_KF a.e_KF ["self"] (Zmg K a):=by
 refine T.fm_KF.ok ZmD (fun vs H Q E h=>?_) (fun cdv A outer s H vs Q E hr h=>?_)
 ·obtain⟨_,_,_,rfl,_⟩:=h;rfl
 ·have hu64:=hr.units
  have hu1:=ZaN hr
  obtain⟨p,l,m,rfl,hp,ok,q⟩:=h
  refine⟨_,(Zag (Zay (Zat ZaY (Zan (Zap (K:=K) rfl) rfl T.z_len ZaT (Zaa (ZeV (K:=K) rfl (pv 0) rfl) Zae)) Zaj))),?_⟩
  obtain⟨dx,hp⟩:=hp
  have l40:=ok.l40
  walk_at "rd"
  exact⟨p,_,dx,_,_,rfl,hp,T.cl_K3,T.n_Plain_own_text,Zeo,_,_,rfl,ZbV (by omega),q⟩
theorem ZmE:FnScope ["self","length"] ["self","length"] (Zah s_KA):=by walk_at "sc"
theorem Zna (T:TL K mg base a tb):FnOk P w K mg base CX0 1 a.g_KA a.e_KA ["self","length"] (Zmi K a):=by
 refine T.fm_KA.ok ZmE (fun vs H Q E h=>?_) (fun cdv A outer s H vs Q E hr h=>?_)
 ·obtain⟨_,_,_,_,rfl,_⟩:=h;rfl
 ·have hu64:=hr.units
  have hu1:=ZaN hr
  obtain⟨p,l,m,n,rfl,hp,q⟩:=h
  refine⟨_,(Zag (Zay (ZeV (K:=K) rfl (pv 0) rfl))),?_⟩
  obtain⟨dx,hp⟩:=hp
  walk_at "rd"
  exact⟨p,_,dx,_,_,rfl,hp,T.cl_K3,T.n_Plain_own_text,Zeo,q⟩
theorem Zmz:FnScope ["self","text","kinds"] ["self","text","kinds"] (Zah s_KL):=by walk_at "sc"
theorem Zm6 (T:TL K mg base a tb):FnOk P w K mg base CX0 1 a.g_KL a.e_KL ["self","text","kinds"] (Zmc K a):=by
 refine T.fm_KL.ok Zmz (fun vs H Q E h=>?_) (fun cdv A outer s H vs Q E hr h=>?_)
 ·obtain⟨_,_,_,_,rfl,_⟩:=h;rfl
 ·have hu64:=hr.units
  have hu1:=ZaN hr
  obtain⟨p,dx,l,m,rfl,hp,q⟩:=h
  refine⟨_,(Zac (ZiJ (pv 0) (pv 1) rfl)
   (Zag (ZiJ (pv 0) (pv 2) rfl))),?_⟩
  walk_at "rd"
  exact⟨p,a.c_K3,dx,[],rfl,hp,T.cl_K3,T.n_Plain_own_text,(by show 0<1000;decide),p,a.c_K3,dx,_,rfl,Zad,T.cl_K3,T.n_Plain_own_kinds,(by show 1<1000;decide),q _ ⟨dx,Zad⟩ (fun b o e ne=>by rw[Zab ne,Zab ne];exact e)⟩
theorem ZmF:FnScope ["_law_script","_law_k"] ["_law_script","_law_k"] (Zah s_K7):=by walk_at "sc"
theorem Zh6 (T:TL K mg base a tb):FnOk P w K mg base CX0 1 a.f_K7 a.d_K7 ["_law_script","_law_k"] (Zml K a):=by
 refine T.f_K7.ok ZmF (fun vs H Q E h=>?_) (fun cdv A outer s H vs Q E hr h=>?_)
 ·obtain⟨_,_,_,rfl,_⟩:=h;rfl
 ·have hu64:=hr.units
  have hu1:=ZaN hr
  obtain⟨b,ns,k,rfl,hS,hk,q⟩:=h
  refine⟨_,(Zac (Zbj (Zaw ZjC (pv 1) (Zan (Zap (K:=K) rfl) rfl T.z_len ZaT (Zaa (pv 0) Zae)) (ZaH _)) (Zag (Zay (Zf8 (ZfJ (K:=K) rfl) (pv 0) (pv 1) (fun _ _=>rfl)))) ZaB)
   (Zag (Zay Zaj))),?_⟩
  walk_at "rd"
  refine⟨_,_,rfl,.inl ⟨_,hS,rfl⟩,?_⟩
  rw[List.length_map]
  refine ite2 (fun h=>?_) (fun h=>?_)
  ·have h':k<ns.length:=of_decide_eq_true h
   exact⟨b,_,k,_,rfl,rfl,hS,Zkd hk h',q _⟩
  ·exact q _
theorem Zju:FnScope ["_law_cell","_law_k","_law_number"] ["_law_cell","_law_k"] (Zah s_K9):=by walk_at "sc"
theorem ZbI (T:TL K mg base a tb):FnOk P w K mg base CX0 1 a.f_K9 a.d_K9 ["_law_cell","_law_k"] (Zmj K a):=by
 refine T.f_K9.ok Zju (fun vs H Q E h=>?_) (fun cdv A outer s H vs Q E hr h=>?_)
 ·obtain⟨_,_,rfl,_⟩:=h;rfl
 ·have hu64:=hr.units
  have hu1:=ZaN hr
  obtain⟨c,k,rfl,q⟩:=h
  refine⟨_,(Zac (Zam (i:=2) Zju.nd rfl (Or.inl rfl) (Zat ZaS (Zat ZaY (Zat ZaY (Zat Zc4 (Zat ZaS (pv 0) Zaj) Zaj) (Zat Zc4 (pv 1) Zaj)) Zaj) Zaj))
   (Zac (Zam (i:=2) Zju.nd rfl (Or.inl rfl) (Zat ZaS (Zat ZaY (Zat ZaY (Zat Zc4 (Zat ZaS (Zat Zc4 (pv 2) (pv 2)) Zaj) Zaj) (Zat Zc4 (pv 1) Zaj)) Zaj) Zaj))
   (Zag (Zay (Zat ZaS (Zat Zc4 (pv 2) (pv 2)) Zaj))))),?_⟩
  walk_at "rd"
  exact⟨by decide,.inr ⟨by decide,by decide⟩,.inr ⟨by decide,by decide⟩,by decide,cm (by decide) (by decide),by decide,.inr ⟨by decide,by decide⟩,.inr ⟨by decide,by decide⟩,by decide,cm (by decide) (by decide),by decide,q _ (Int.emod_nonneg _ (by decide))⟩
theorem ZhY:FnScope ["_law_text_here","_law_found","_law_start","_law_end"] ["_law_text_here"] (Zah s_KO):=by walk_at "sc"
theorem Zm3 (T:TL K mg base a tb):FnOk P w K mg base CX0 1 a.f_KO a.d_KO ["_law_text_here"] (Zl9 K a):=by
 refine T.f_KO.ok ZhY (fun vs H Q E h=>?_) (fun cdv A outer s H vs Q E hr h=>?_)
 ·obtain⟨_,rfl,_⟩:=h;rfl
 ·have hu64:=hr.units
  have hu1:=ZaN hr
  obtain⟨l,rfl,hl,q⟩:=h
  refine⟨_,(Zac (Zam (i:=1) ZhY.nd rfl (Or.inl rfl) (Zg0 (Zfw (Zbo (l:=[]) (by decide +kernel)) Zd7 ZgW) rfl rfl (by simp) (by decide)))
   (Zac (ZaM PassesOwn.never rfl (ZbP rfl T.z_range (Zaa (Zan (Zap (K:=K) rfl) rfl T.z_len ZaT (Zaa (pv 0) Zae)) Zae)) (Zaq (i:=2) ZhY.nd rfl (Or.inl rfl))
   (Zag (ZaM PassesOwn.never rfl (Zcs rfl T.z_range (Zaa (Zat ZaY (pv 2) Zaj) (Zaa (Zat ZaY (Zan (Zap (K:=K) rfl) rfl T.z_len ZaT (Zaa (pv 0) Zae)) Zaj) Zae))) (Zaq (i:=3) ZhY.nd rfl (Or.inl rfl))
   (Zag (ZbG hu1 (pv 1) (Za1 ZcR (pv 0) (Za2 (pv 2)) (Za2 (pv 3))) Zd7 rfl)))))
   (Zag (Zay (pv 1))))),?_⟩
  have sz:∀k:Nat,k≤3000→k≤sizeLine:=fun k h=>Nat.le_trans h (by rw[sizeLine_eq];decide)
  walk_at "rd"
  intro p hp
  refine⟨Zad,[(kTx [],.bl true)],rfl,by show (1:Nat)≤15;decide,_,_,rfl,ZbV (by omega),_,rfl,by omega,by omega,?_⟩
  have s1:Same H (upd (upd H p (.dK [])) p (.dK (ZaD [] [(kTx [],.bl true)]))):=Zd1 hp
  have h1:upd (upd H p (.dK [])) p (.dK (ZaD [] [(kTx [],.bl true)])) p=some (.dK (ZaD [] [(kTx [],.bl true)])):=Zad
  have k1:SoundD l (ZaD [] [(kTx [],.bl true)]):=by
   show SoundD l (putK [] (kTx []) (.bl true))
   exact SoundD.put ⟨fun _ h=>(by cases h),List.nodup_nil⟩ (Inf.nil l)
  have l1:(ZaD [] [(kTx [],.bl true)]).length≤1:=ZaL _ _
  have z1:(valV (ZaD [] [(kTx [],.bl true)]) (kTx [])).isSome=true:=by
   show (valV (putK [] (kTx []) (.bl true)) (kTx [])).isSome=true
   exact Za4 (.inr rfl)
  generalize ZaD [] [(kTx [],.bl true)]=kv0 at s1 h1 k1 l1 z1
  generalize upd (upd H p (.dK [])) p (.dK kv0)=H1 at s1 h1
  rw[Int.toNat_natCast]
  refine ForRun.range (fun i σ H'=>∃v2 v3 kvs,σ=[some (tx l),some (.ref p),v2,v3]∧Same H H'∧H' p=some (.dK kvs)∧SoundD l kvs∧kvs.length≤1+40*i∧(valV kvs (kTx [])).isSome=true∧∀s e,s<i→s≤e→e≤l.length→(valV kvs (kTx ((l.drop s).take (e-s)))).isSome=true) ⟨_,_,_,rfl,s1,h1,k1,by omega,z1,fun s e h=>by omega⟩ ?_ ?_
  ·rintro i σ H2 hi ⟨v2,v3,kvs,rfl,s2,h2,k2,n2,z2,c2⟩
   walk_at "rd"
   refine⟨_,_,rfl,ZbV (by omega),_,_,rfl,⟨by omega,by omega,by omega,by omega⟩,?_⟩
   refine ForRun.range (fun j σ H'=>∃v3 kvs,σ=[some (tx l),some (.ref p),some (.int (0+(i:Int))),v3]∧Same H H'∧H' p=some (.dK kvs)∧SoundD l kvs∧kvs.length≤1+40*i+j∧(valV kvs (kTx [])).isSome=true∧(∀s e,s<i→s≤e→e≤l.length→(valV kvs (kTx ((l.drop s).take (e-s)))).isSome=true)∧∀e,i<e→e≤i+j→(valV kvs (kTx ((l.drop i).take (e-i)))).isSome=true) ⟨_,_,rfl,s2,h2,k2,by omega,z2,c2,fun e a b=>by omega⟩ ?_ ?_
   ·rintro j σ H3 hj ⟨v3,kvs,rfl,s3,h3,k3,n3,z3,c3,e3⟩
    have q1:(0+(i:Int))=((i:Nat):Int):=by omega
    have q2:(0+(i:Int)+1+(j:Int))=((i+1+j:Nat):Int):=by omega
    walk_at "rd"
    refine⟨_,rfl,_,rfl,l,rfl,sz _ (by omega),?_⟩
    rw[q2,q1,Zi3]
    refine⟨p,_,rfl,DPut.k (k:=kTx ((l.drop i).take (i+1+j-i))) h3 (Nat.lt_of_lt_of_le (show _<3000 by omega) (sz 3000 (Nat.le_refl _))),_,_,rfl,same_upd3 s3 hp,Zad,k3.put (ZjT (by omega) (by omega)),?_,Za4 (.inl z3),fun s e a b d=>Za4 (.inl (c3 s e a b d)),fun e a b=>?_⟩
    ·have:=ZaA kvs (kTx ((l.drop i).take (i+1+j-i))) (.bl true)
     omega
    ·by_cases ee:e=i+1+j
     ·rw[ee];exact Za4 (.inr rfl)
     ·exact Za4 (.inl (e3 e a (by omega)))
   ·rintro σ H3 ⟨v3,kvs,rfl,s3,h3,k3,n3,z3,c3,e3⟩
    refine⟨_,_,_,rfl,s3,h3,k3,by omega,z3,fun s e a b d=>?_⟩
    by_cases hs:s<i
    ·exact c3 s e hs b d
    ·have hsi:s=i:=by omega
     subst hsi
     by_cases he:e=s
     ·rw[he];simpa using z3
     ·exact e3 e (by omega) (by omega)
  ·rintro σ H2 ⟨v2,v3,kvs,rfl,s2,h2,k2,n2,z2,c2⟩
   walk_at "rd"
   exact q p kvs H2 s2 hp h2 ⟨Zih k2.1 z2 c2,k2.2,by omega⟩
theorem Zmv:FnScope ["thing"] ["thing"] (Zah s_KR):=by walk_at "sc"
theorem Zm1 (T:TL K mg base a tb):FnOk P w K mg base CX0 2 a.f_KR a.d_KR ["thing"] (Zl6 K a):=by
 refine T.f_KR.ok Zmv (fun vs H Q E h=>?_) (fun cdv A outer s H vs Q E hr h=>?_)
 ·obtain⟨_,rfl,_⟩:=h;rfl
 ·have hu64:=hr.units
  have hu1:=ZaN hr
  obtain⟨l,rfl,hl,q⟩:=h
  refine⟨_,(Zac (Zbj (Zcr (ZbN (Zan (Zbc (K:=K) rfl) rfl T.z_isinstance Za6 (Zaa (pv 0) (Zaa (Zds (v:=.ty "str") rfl T.z_str ZhI rfl) Zae))))) (Zag (Zay Zd7)) ZaB)
   (Zac (Zbj (PW.pt (Zd3 (Zaw ZjC (Zan (Zap (K:=K) rfl) rfl T.z_len ZaT (Zaa (pv 0) Zae)) Zaj (ZaH _)) (Zd2 (Zaw Zgc (Zan (Zap (K:=K) rfl) rfl T.z_len ZaT (Zaa (pv 0) Zae)) (ZbQ rfl T.c_KH) (ZaH _))))) (Zag (Zay Zd7)) ZaB)
   (Zag (Zay (Zg1 (Zak (Zk5 T) (hr.mono (by decide)) rfl T.m_KP T.f_KP.kp T.b_KP .nil Zar (Zaa (pv 0) (Zaa (Zh3 rfl T.c_KC) Zae))) (ZiL (ZbH (Za8 (K:=K) rfl hu64) (Zbr (Zez rfl) rfl T.z_list Zff (Zaa (pv 0) Zae)) (Zan (Zbv rfl) rfl T.z_sorted ZcN (Zaa (Zbr (ZcM rfl) rfl T.z_set Zi5 (Zaa (pv 0) Zae)) Zae)) (ZaH _)))))))),?_⟩
  walk_at "rd"
  refine⟨_,_,_,_,true,rfl,rfl,.ty (.pl (.str _)),ZfH,iteF ?_⟩
  refine⟨_,_,rfl,ZbV hl,?_⟩
  refine ite2 (fun h=>iteT' ?_) (fun h=>?_)
  ·have h1:¬1≤l.length:=by have:=of_decide_eq_true h;omega
   have e:=q H (Same.refl _)
   unfold isk at e
   rw[decide_eq_false h1,Bool.false_and,Bool.false_and,Bool.false_and]at e
   exact e
  ·have h1:1≤l.length:=by have:¬((l.length:Nat):Int)<1:=fun z=>h (decide_eq_true z);omega
   refine⟨_,_,rfl,ZbV hl,?_⟩
   refine ite2 (fun h'=>?_) (fun h'=>?_)
   ·have h4:¬l.length≤4:=by have:=of_decide_eq_true h';omega
    have e:=q H (Same.refl _)
    unfold isk at e
    rw[decide_eq_false h4,Bool.and_false,Bool.false_and,Bool.false_and]at e
    exact e
   ·have h4:l.length≤4:=by have:¬4<((l.length:Nat):Int):=fun z=>h' (decide_eq_true z);omega
    refine⟨l,LET,by rw[ZjM],hl,fun H2 s2=>⟨_,rfl,?_⟩⟩
    refine ite2 (fun ha=>?_) (fun ha=>?_)
    ·refine⟨l,rfl,hl,NewL.of fun p1 H3 s3 n3 l3=>?_⟩
     refine⟨signs l,by rw[signs_length];exact hl,.inl ⟨l,rfl,rfl⟩,fun p4 n4=>?_⟩
     refine⟨p4,ddl (signs l),rfl,Zad,Nat.lt_of_le_of_lt (Zj2 l) (by omega),NewL.of fun p5 H5 s5 n5 l5=>?_⟩
     refine ZlF (.mk ((Zav n4).trans s5 _ _ l3)) (.mk l5) ?_
     have e:=q H5 (s2.trans (s3.trans ((Zav n4).trans s5)))
     unfold isk at e
     rw[decide_eq_true h1,decide_eq_true h4,ha,Bool.true_and,Bool.true_and,Bool.true_and]at e
     exact e
    ·have e:=q H2 s2
     unfold isk at e
     rw[Bool.eq_false_iff.mpr ha,Bool.and_false,Bool.false_and]at e
     exact e
theorem Zmu:FnScope ["thing","kinds","most"] ["thing","kinds","most"] (Zah s_KV):=by walk_at "sc"
theorem Zk2 (T:TL K mg base a tb):FnOk P w K mg base CX0 2 a.f_KV a.d_KV ["thing","kinds","most"] (Zl2 K a):=by
 refine T.f_KV.ok Zmu (fun vs H Q E h=>?_) (fun cdv A outer s H vs Q E hr h=>?_)
 ·obtain⟨_,_,_,rfl,_⟩:=h;rfl
 ·have hu64:=hr.units
  have hu1:=ZaN hr
  obtain⟨l,m,most,rfl,hl,q⟩:=h
  refine⟨_,(Zag (Zay (Zg1 (Zan (Zbc (K:=K) rfl) rfl T.z_isinstance Za6 (Zaa (pv 0) (Zaa (Zds (v:=.ty "str") rfl T.z_str ZhI rfl) Zae))) (Zg1 (ZbH ZmT (Zan (Zap (K:=K) rfl) rfl T.z_len ZaT (Zaa (pv 0) Zae)) (pv 2) (ZaH _)) (ZiL (Zak (Zk5 T) (hr.mono (by decide)) rfl T.m_KP T.f_KP.kp T.b_KP .nil Zar (Zaa (pv 0) (Zaa (pv 1) Zae)))))))),?_⟩
  walk_at "rd"
  refine⟨_,_,_,_,true,rfl,rfl,.ty (.pl (.str _)),ZfH,iteT ?_⟩
  refine⟨_,_,rfl,ZbV hl,?_⟩
  refine ite2 (fun h=>?_) (fun h=>?_)
  ·refine⟨l,m,rfl,hl,fun H2 s2=>?_⟩
   have e:=q H2 s2
   unfold isw at e
   rw[h,Bool.true_and]at e
   exact e
  ·have e:=q H (Same.refl _)
   unfold isw at e
   rw[Bool.eq_false_iff.mpr h,Bool.false_and]at e
   exact e
theorem ZgO:FnScope ["words","kinds","stems","ways","stem","onward"] ["words","kinds"] (Zah s_LC):=by walk_at "sc"
theorem ZmV (T:TL K mg base a tb):FnOk P w K mg base CX0 2 a.f_LC a.d_LC ["words","kinds"] (ZlW K a):=by
 refine T.f_LC.ok ZgO (fun vs H Q E h=>?_) (fun cdv A outer s H vs Q E hr h=>?_)
 ·obtain⟨_,_,_,_,rfl,_⟩:=h;rfl
 ·have hu64:=hr.units
  have hu1:=ZaN hr
  obtain⟨b,ws,l,m,rfl,hb,ok,lk,q⟩:=h
  refine⟨_,(Zac (Zam (i:=2) ZgO.nd rfl (Or.inr rfl) (Zak (ZmW T) (hr.mono (by decide)) rfl T.m_LA T.f_LA.kp T.b_LA .nil Zar (Zaa (pv 0) Zae)))
   (Zai (Zac (Zam (i:=3) ZgO.nd rfl (Or.inl rfl) Zbx)
   (Zai (Zac (Zb3 (ZaM PassesOwn.never rfl (Zct (pv 2)) (Zaq (i:=4) ZgO.nd rfl (Or.inr rfl))
   (Zac (ZgV (i:=5) (N:=["letter","stem","words"]) (ix:=[none,some 4,some 0]) rfl ZgO.nd rfl rfl rfl (ZbB rfl) rfl (Zdq (pv 1)) (fun _ _ _ _=>(Zaq (i:=0) (show (["letter","stem","words"]:List Str).Nodup from by decide +kernel) rfl (Or.inl rfl) (Or.inr rfl))) (fun _ _ _ _=>(Zfx (ZbN (Zak (Zk1 T) (hr.mono (by decide)) rfl T.m_KZ T.f_KZ.kp T.b_KZ .nil Zar (Zaa (pv 2) (Zaa (Zat ZaW (pv 1) (pv 0)) Zae)))))) (fun _ _ _ _=>(pv 0)))
   (Zai (Zag (ZbG hu1 (pv 3) (pv 4) (Zbr (ZiB rfl) rfl T.z_dict Zj9 (Zaa (Zdr (N:=["letter","stem","stems"]) (ix:=[none,some 4,some 2]) rfl (ZbB rfl) rfl (ZaV (K:=K) rfl (pv 5)) (fun _ _ _ _=>(Zaq (i:=0) (show (["letter","stem","stems"]:List Str).Nodup from by decide +kernel) rfl (Or.inl rfl) (Or.inr rfl))) (fun _ _ _ _=>Zce) (fun _ _ _ _=>(ZkT (Zaa (pv 0) (Zaa (Zak (Zng T) (hr.mono (by decide)) rfl T.m_K0 T.f_K0.kp T.b_K0 .nil Zar (Zaa (pv 2) (Zaa (Zat ZaW (pv 1) (pv 0)) Zae))) Zae))))) Zae)) rfl))))))
   (Zai (Zag (Zay (pv 3))))))))),?_⟩
  have sz:∀k:Nat,k≤9000→k≤sizeLine:=fun k h=>Nat.le_trans h (by rw[sizeLine_eq];decide)
  have ln:=lk.len ok
  have m4:=ok.m4
  have l40:=ok.l40
  walk_at "rd"
  refine⟨b,ws,rfl,hb,ln,fun w hw=>lk.w41 ok hw,fun p0 kvs H1 s1 n0 h0 sd=>?_⟩
  show Zbp _ _ _ _
  refine Zal ?_
  walk_at "rd"
  intro pw npw
  have s2:Same H1 (upd H1 pw (.dK [])):=Zav npw
  have l2:upd H1 pw (.dK []) pw=some (.dK []):=Zad
  have nw:H pw=none:=s1.free npw
  have ne:p0≠pw:=Zaf h0 npw
  generalize upd H1 pw (.dK [])=H2 at s2 l2
  refine Zal ?_
  walk_at "rd"
  refine⟨p0,kvs,s2 _ _ h0,p0,kvs,rfl,s2 _ _ h0,fun o=>ForRun.dict (fun i σ H'=>∃v4 v5 kw ss,σ=[some (.ref b),some (tx m),some (.ref p0),some (.ref pw),v4,v5]∧Same H H'∧H' p0=some (.frz o (.dK kvs))∧H' pw=some (.dK kw)∧WaysL H' pw kw ws m ss∧ss.map kTx=(kvs.map (·.1)).take i) ⟨_,_,[],[],rfl,same_upd3 (s1.trans s2) n0,Zad,by rw[Zab (Ne.symm ne)];exact l2,⟨rfl,fun i u h=>by simp at h⟩,by simp⟩ (fun i σ H' ⟨_,_,_,_,_,_,h,_⟩=>h) ?_ ?_⟩
  ·rintro i kv σ H3 hkv ⟨v4,v5,kw,ss,rfl,s3,f3,w3,wl,e3⟩
   obtain⟨u,ek,hu⟩:=sd.key kv (List.mem_of_getElem? hkv)
   have ul:u.length≤41:=by
    rcases hu with rfl | ⟨v,hv,k,hk,rfl⟩
    ·exact Nat.zero_le _
    ·have:=lk.w41 ok hv
     rw[List.length_take];omega
   rw[ek,Zgl]
   walk_at "rd"
   refine⟨m,rfl,CompRun.text (fun i=>avB ws (u++[m.getD i 0])) (fun i=>tx [m.getD i 0]) (by omega) ?_ ?_ ?_⟩
   ·intro j H4 Q4 hj s4 q4
    have sl:(u++[m.getD j 0]).length≤42:=by rw[List.length_append,List.length_singleton];omega
    walk_at "rd"
    exact⟨sz _ (by omega),b,ws,_,rfl,s4 _ _ (s3 _ _ hb),by omega,by omega,fun H5 s5=>q4 H5 s5⟩
   ·intro j H4 Q4 hj _ s4 q4
    walk_at "rd"
    exact q4 H4 (Same.refl _)
   ·intro p1 H4 s4 n4 l4
    rw[Zhy (fun c=>avB ws (u++[c])) (fun c=>tx [c]) m]at l4
    refine Zal ?_
    walk_at "rd"
    have ol:(onwC ws m u).length≤4:=Nat.le_trans (List.length_filter_le _ _) m4
    refine⟨p1,rfl,⟨_,.mk l4⟩,CompRun.tups (xs:=(onwC ws m u).map fun c=>tx [c]) (fun j vs=>∃c,(onwC ws m u)[j]?=some c∧vs=[tx [c],tx (estOf ws (u++[c]))]) (by rw[List.length_map];omega) (.mk l4) ?_ ?_⟩
    ·intro j H5 Q5 hj s5 q5
     rw[List.length_map]at hj
     have hc:(onwC ws m u)[j]?=some ((onwC ws m u).getD j 0):=by rw[List.getD_eq_getElem?_getD,List.getElem?_eq_getElem hj];rfl
     have eg:((onwC ws m u).map fun c=>tx [c]).getD j .non=tx [(onwC ws m u).getD j 0]:=by simp[List.getD_eq_getElem?_getD,hj]
     rw[eg]
     generalize (onwC ws m u).getD j 0=c at hc
     have sl:(u++[c]).length≤42:=by rw[List.length_append,List.length_singleton];omega
     walk_at "rd"
     refine⟨sz _ (by omega),p0,kvs,ws,u++[c],rfl,.inr ⟨o,s5 _ _ (s4 _ _ f3)⟩,sd,by omega,fun e H6 s6 he=>?_⟩
     refine⟨sz _ (by decide),NewT.of fun pt H7 s7 n7 l7=>q5 pt _ H7 (s6.trans s7) l7 ⟨c,hc,?_⟩⟩
     rw[Zho he (ZbZ _ _)]
    ·intro p2 ys H5 s5 n5 l5 yl hy
     refine⟨p2,ys,(onw ws m u).map wayK,rfl,l5,⟨by unfold onw;rw[yl,List.length_map,List.length_map,List.length_map],fun j y hj=>?_⟩,fun d hd=>?_⟩
     ·obtain⟨t,vs,rfl,ht,c,hc,rfl⟩:=hy j y hj
      refine⟨wayK (c,estOf ws (u++[c])),t,?_,rfl,ht⟩
      unfold onw
      rw[List.map_map,List.getElem?_map,hc]
      rfl
     ·rw[Zdw _ [] (by rw[List.nil_append];exact Zg4 (ZbY ok.k)),List.nil_append]
      have w5:=s5 _ _ (s4 _ _ w3)
      have dn:d≠pw:=Ne.symm (Zaf w5 hd)
      have ki:(kvs.map (·.1))[i]?=some (kTx u):=by rw[List.getElem?_map,hkv,←ek];rfl
      have nk:valV kw (kTx u)=none:=ZgA (by rw[wl.keys,e3];exact Zk9 sd.nd ki)
      have kl:kw.length≤i:=by
       have:=congrArg List.length e3
       rw[List.length_map,List.length_take]at this
       rw[wl.1];omega
      have il:=(List.getElem?_eq_some_iff.mp hkv).1
      have sl:=sd.len
      have s45:=s4.trans s5
      have s6:Same H5 (upd H5 d (.dK ((onw ws m u).map wayK))):=Zav hd
      have d6:upd H5 d (.dK ((onw ws m u).map wayK)) d=some (.dK ((onw ws m u).map wayK)):=Zad
      generalize upd H5 d (.dK ((onw ws m u).map wayK))=H6 at s6 d6
      refine⟨pw,_,rfl,DPut.k (k:=kTx u) (s6 _ _ w5) (Nat.lt_of_lt_of_le (show _<9000 by omega) (sz 9000 (Nat.le_refl _))),_,_,kw++[(kTx u,.ref d)],ss++[u],rfl,same_upd3 (s3.trans (s45.trans s6)) nw,by rw[Zab ne];exact s6 _ _ (s45 _ _ f3),by rw[Zad,Zdo _ nk],?_,?_⟩
      ·refine WaysL.snoc ((wl.same (s45.trans s6)).chg fun b o n e=>by rw[Zab n];exact e) dn ?_
       rw[Zab dn];exact d6
      ·rw[List.map_append,e3,List.take_add_one,ki];rfl
  ·rintro σ H3 ⟨v4,v5,kw,ss,rfl,s3,f3,w3,wl,e3⟩
   refine⟨o,kvs,f3,?_⟩
   walk_at "rd"
   refine Zal ?_
   walk_at "rd"
   have e4:ss.map kTx=kvs.map (·.1):=by rw[e3,List.take_of_length_le (by rw[List.length_map];exact Nat.le_refl _)]
   have hm:∀v,v∈ss↔Stem ws v:=fun v=>by
    constructor
    ·intro hv
     have:kTx v∈kvs.map (·.1):=by rw[←e4];exact List.mem_map_of_mem hv
     obtain⟨kv,hk,ek⟩:=List.mem_map.mp this
     obtain⟨u,eu,hu⟩:=sd.key kv hk
     rw[ZaI (ek.symm.trans eu)];exact hu
    ·intro hv
     obtain⟨kv,hk,ek⟩:=ZbL (sd.has v hv)
     have:kTx v∈ss.map kTx:=by rw[e4,←ek];exact List.mem_map_of_mem hk
     obtain⟨x,hx,ex⟩:=List.mem_map.mp this
     rw[←ZaI ex];exact hx
   refine q pw kw ss (upd H3 p0 (.dK kvs)) (same_upd3 s3 n0) nw (by rw[Zab (Ne.symm ne)];exact w3) ⟨wl.1,fun i u hu=>?_⟩ ⟨?_,hm,?_⟩
   ·obtain⟨a',h1,h2,h3⟩:=wl.2 i u hu
    have n3:a'≠p0:=by
     rintro rfl
     have z:=h3.symm.trans f3
     exact nomatch z
    refine⟨a',h1,h2,?_⟩
    rw[Zab n3];exact h3
   ·have:=sd.nd
    rw[←e4]at this
    exact List.Pairwise.imp (fun h e=>h (by rw[e])) (List.pairwise_map.mp this)
   ·have:=congrArg List.length e4
    rw[List.length_map,List.length_map]at this
    have:=sd.len
    omega
theorem ZmC:FnScope ["self","length"] ["self","length"] (Zah s_KG):=by walk_at "sc"
theorem Zk7 (T:TL K mg base a tb):FnOk P w K mg base CX0 2 a.g_KG a.e_KG ["self","length"] (Zmf K a):=by
 refine T.fm_KG.ok ZmC (fun vs H Q E h=>?_) (fun cdv A outer s H vs Q E hr h=>?_)
 ·obtain⟨_,_,_,_,rfl,_⟩:=h;rfl
 ·have hu64:=hr.units
  have hu1:=ZaN hr
  obtain⟨p,l,m,n,rfl,hp,ok,hn,q⟩:=h
  refine⟨_,(Zag (Zay (Zak (Zne T) (hr.mono (by decide)) rfl T.m_K2 T.f_K2.kp T.b_K2 .nil Zar (Zaa (ZeU (pv 0) T.cl_K3 T.me_Plain_laid_out (Zna T) (hr.mono (by decide)) T.b_KA .nil Zar (Zaa (pv 1) Zae)) (Zaa (pv 1) Zae))))),?_⟩
  obtain⟨dx,hp⟩:=hp
  have l40:=ok.l40
  walk_at "rd"
  exact⟨p,dx,_,rfl,hp,ZcH (by decide +kernel) (by decide +kernel),p,l,m,n,rfl,⟨dx,hp⟩,l,n,rfl,by omega,by omega,by omega,q⟩
theorem Zf7:FnScope ["_law_cell","_law_at","_law_found","_law_k"] ["_law_cell"] (Zah s_K1):=by walk_at "sc"
theorem Znf (T:TL K mg base a tb):FnOk P w K mg base CX0 2 a.f_K1 a.d_K1 ["_law_cell"] (Zmq K a):=by
 refine T.f_K1.ok Zf7 (fun vs H Q E h=>?_) (fun cdv A outer s H vs Q E hr h=>?_)
 ·obtain⟨_,rfl,_⟩:=h;rfl
 ·have hu64:=hr.units
  have hu1:=ZaN hr
  obtain⟨c,rfl,q⟩:=h
  refine⟨_,(Zac (Zam (i:=1) Zf7.nd rfl (Or.inl rfl) (Zat ZaS (Zak (ZbI T) (hr.mono (by decide)) rfl T.m_K9 T.f_K9.kp T.b_K9 .nil Zar (Zaa (pv 0) (Zaa Zaj Zae))) Zaj))
   (Zac (Zam (i:=2) Zf7.nd rfl (Or.inl rfl) (Zf8 Zii (Zbo (l:=[97,98,99,100,101,102,103,104]) (by decide +kernel)) (pv 1) (fun _ _=>rfl)))
   (Zac (ZaM PassesOwn.never rfl (ZbP rfl T.z_range (Zaa (Zat ZaS (Zak (ZbI T) (hr.mono (by decide)) rfl T.m_K9 T.f_K9.kp T.b_K9 .nil Zar (Zaa (pv 0) (Zaa Zaj Zae))) Zaj) Zae)) (Zaq (i:=3) Zf7.nd rfl (Or.inl rfl))
   (Zac (Zam (i:=1) Zf7.nd rfl (Or.inl rfl) (Zat ZaY (Zat ZaY (pv 1) Zaj) (Zat ZaS (Zak (ZbI T) (hr.mono (by decide)) rfl T.m_K9 T.f_K9.kp T.b_K9 .nil Zar (Zaa (pv 0) (Zaa (Zat ZaY Zaj (pv 3)) Zae))) Zaj)))
   (Zag (Zam (i:=2) Zf7.nd rfl (Or.inl rfl) (Zat ZaW (pv 2) (Zf8 Zii (Zbo (l:=[97,98,99,100,101,102,103,104,105,106,107,108,109,110,111,112,113,114,115,116,117,118,119,120,121,122]) (by decide +kernel)) (pv 1) (fun _ _=>rfl)))))))
   (Zag (Zay (pv 2)))))),?_⟩
  have sz:∀k:Nat,k≤1000→k≤sizeLine:=fun k h=>Nat.le_trans h (by rw[sizeLine_eq];decide)
  walk_at "rd"
  refine⟨_,_,rfl,fun r0 h0=>?_⟩
  walk_at "rd?"
  have g1:=Int.emod_nonneg r0 (show (8:Int)≠0 by decide)
  have g2:=Int.emod_lt_of_pos r0 (show (0:Int)<8 by decide)
  generalize r0 % 8=a0 at g1 g2
  refine⟨by decide,[97,98,99,100,101,102,103,104],_,_,rfl,rfl,sz _ (by decide),ZfX (by omega) (by show _<(8:Int);omega),_,_,rfl,fun r1 h1=>?_⟩
  rw[ZjN _ (by omega)]
  walk_at "rd?"
  refine⟨by decide,_,rfl,by omega,by omega,ForRun.range (fun i σ H'=>H'=H∧∃(at_:Int) (f:List Nat) (v3:Option V),σ=[some (.int c),some (.int at_),some (tx f),v3]∧0≤at_∧at_≤7+6*i∧f.length=i+1∧f.Pairwise (· < ·)∧∀x∈f,97≤x∧x≤97+at_.toNat) ⟨rfl,_,_,_,rfl,by omega,by omega,rfl,by simp,by simp⟩ ?_ ?_⟩
  ·rintro i σ H1 hi ⟨rfl,at_,f,v3,rfl,b0,b1,fl,fp,fm⟩
   walk_at "rd"
   refine⟨_,_,rfl,fun r2 h2=>?_⟩
   walk_at "rd?"
   have g3:=Int.emod_nonneg r2 (show (6:Int)≠0 by decide)
   have g4:=Int.emod_lt_of_pos r2 (show (0:Int)<6 by decide)
   generalize r2 % 6=a2 at g3 g4
   refine⟨by decide,LET,_,_,rfl,rfl,sz _ (by decide),ZfX (by omega) (by show _<(26:Int);omega),sz _ (by omega),by trivial,_,_,_,rfl,by omega,by omega,by simp[fl],?_,?_⟩
   ·rw[Zhe _ (by omega),List.pairwise_append]
    refine⟨fp,by simp,fun x hx y hy=>?_⟩
    rw[List.mem_singleton.mp hy]
    have:=fm x hx
    omega
   ·intro x hx
    rw[Zhe _ (by omega)]at hx
    rcases List.mem_append.mp hx with z | z
    ·have:=fm x z;omega
    ·rw[List.mem_singleton.mp z];omega
  ·rintro σ H1 ⟨rfl,at_,f,v3,rfl,b0,b1,fl,fp,fm⟩
   walk_at "rd"
   exact q f (Zlq (by omega) (by omega) (fun x hx=>Zif (fm x hx).1 (by have:=(fm x hx).2;omega)) fp) (by omega) (by omega)
theorem Zd0:FnScope ["_law_cell","_law_by_digits","_law_kinds_here","_law_many","_law_text_here","_law_left","_law_k","_law_number"] ["_law_cell","_law_by_digits","_law_kinds_here","_law_many"] (Zah s_K5):=by walk_at "sc"
theorem Zk8 (T:TL K mg base a tb):FnOk P w K mg base CX0 2 a.f_K5 a.d_K5 ["_law_cell","_law_by_digits","_law_kinds_here","_law_many"] (Zmn K a):=by
 refine T.f_K5.ok Zd0 (fun vs H Q E h=>?_) (fun cdv A outer s H vs Q E hr h=>?_)
 ·obtain⟨_,_,_,_,rfl,_⟩:=h;rfl
 ·have hu64:=hr.units
  have hu1:=ZaN hr
  obtain⟨c,d,m,n,rfl,hm,h4,h0,h1,q⟩:=h
  refine⟨_,(Zac (Zam (i:=4) Zd0.nd rfl (Or.inl rfl) (Zbo (l:=[]) (by decide +kernel)))
   (Zac (Zam (i:=5) Zd0.nd rfl (Or.inl rfl) (pv 0))
   (Zac (ZaM PassesOwn.never rfl (ZbP rfl T.z_range (Zaa (pv 3) Zae)) (Zaq (i:=6) Zd0.nd rfl (Or.inl rfl))
   (Zac (Zam (i:=7) Zd0.nd rfl (Or.inl rfl) (pv 5))
   (Zac (Zbj (PW.pt (Zd3 (Zcr (ZbN (pv 1))) (Zd3 (Zaw (Za8 (K:=K) rfl hu64) (pv 5) Zaj (ZaH _)) (Zd2 (Zaw (Za8 (K:=K) rfl hu64) (pv 5) (ZmR Zki Zaj) (ZaH _)))))) (Zag (Zam (i:=7) Zd0.nd rfl (Or.inl rfl) (Zak (ZbI T) (hr.mono (by decide)) rfl T.m_K9 T.f_K9.kp T.b_K9 .nil Zar (Zaa (pv 0) (Zaa (Zat ZaY Zaj (pv 6)) Zae))))) ZaB)
   (Zai (Zac (Zam (i:=4) Zd0.nd rfl (Or.inl rfl) (Zat ZaW (pv 4) (Zf8 Zii (pv 2) (Zat ZaS (pv 7) (Zan (Zap (K:=K) rfl) rfl T.z_len ZaT (Zaa (pv 2) Zae))) (fun _ _=>rfl))))
   (Zag (Zam (i:=5) Zd0.nd rfl (Or.inl rfl) (Zat ZjD (pv 5) (Zan (Zap (K:=K) rfl) rfl T.z_len ZaT (Zaa (pv 2) Zae))))))))))
   (Zag (Zay (pv 4)))))),?_⟩
  walk_at "rd"
  refine⟨n,rfl,by omega,by omega,ForRun.range (fun i σ H'=>H'=H∧∃(f:List Nat) (le:Int) (v6 v7:Option V),σ=[some (.int c),some (.bl d),some (tx m),some (.int n),some (tx f),some (.int le),v6,v7]∧f.length=i∧∀x∈f,x∈m) ⟨rfl,[],c,none,none,rfl,rfl,by simp⟩ ?_ ?_⟩
  ·rintro i σ H1 hi ⟨rfl,f,le,v6,v7,rfl,hf,fm⟩
   have hM:m.length≤1000:=by omega
   have sz:m.length≤sizeLine:=Nat.le_trans hM (by rw[sizeLine_eq];decide)
   have sf:f.length+1≤sizeLine:=by rw[sizeLine_eq];omega
   have pm:(0:Int)<m.length:=by omega
   have cd:CDiv le m.length:=⟨pm,by omega⟩
   walk_at "rd"
   apply ZcY (C:=fun _=>True)
   ·intro tail
    refine ite2 (fun h=>iteT' ⟨_,_,rfl,fun r hr=>tail r trivial⟩) (fun h=>.inl ⟨rfl,_,rfl,ite2 (fun h=>iteT' ⟨_,_,rfl,fun r hr=>tail r trivial⟩) (fun h=>.inl ⟨rfl,_,rfl,ite2 (fun h=>⟨_,_,rfl,fun r hr=>tail r trivial⟩) (fun h=>tail le trivial)⟩)⟩)
   ·intro nu _
    refine Zal ?_
    walk_at "rd"
    obtain⟨cc,hcc,mc⟩:=Zi7 (xs:=m) (i:=nu % m.length) (Int.emod_nonneg _ (by omega)) (Int.emod_lt_of_pos _ pm)
    exact⟨_,_,rfl,ZbV hM,pm,m,_,cc,rfl,rfl,sz,hcc,sf,_,_,rfl,ZbV hM,cd,by trivial,_,_,_,_,rfl,by simp[hf],fun x hx=>(List.mem_append.mp hx).elim (fun z=>fm x z) fun z=>by rw[List.mem_singleton.mp z];exact mc⟩
  ·rintro σ H1 ⟨rfl,f,le,v6,v7,rfl,hf,fm⟩
   walk_at "rd"
   exact q f (by omega) fm
theorem ZeS:FnScope ["_law_texts","_law_kinds_here","_law_known","_law_text_here","_law_found","_law_word","_law_letter","_law_longer"] ["_law_texts","_law_kinds_here"] (Zah s_KX):=by walk_at "sc"
theorem ZmY (T:TL K mg base a tb):FnOk P w K mg base CX0 2 a.f_KX a.d_KX ["_law_texts","_law_kinds_here"] (Zl0 K a):=by
 refine T.f_KX.ok ZeS (fun vs H Q E h=>?_) (fun cdv A outer s H vs Q E hr h=>?_)
 ·obtain⟨_,_,_,rfl,_⟩:=h;rfl
 ·have hu64:=hr.units
  have hu1:=ZaN hr
  obtain⟨b,l,m,rfl,hb,ok,q⟩:=h
  refine⟨_,(Zac (Zam (i:=2) ZeS.nd rfl (Or.inl rfl) Zbx)
   (Zac (ZaM PassesOwn.never rfl (ZaV (K:=K) rfl (pv 0)) (Zaq (i:=3) ZeS.nd rfl (Or.inl rfl))
   (Zag (ZaU (Zf9 (pv 2) (Zak (Zm3 T) (hr.mono (by decide)) rfl T.m_KO T.f_KO.kp T.b_KO .nil Zar (Zaa (pv 3) Zae)) ⟨rfl,rfl,rfl,rfl⟩))))
   (Zai (Zac (Zam (i:=4) ZeS.nd rfl (Or.inl rfl) (Zcb Zae))
   (Zac (Zb3 (ZaM PassesOwn.never rfl (Zct (pv 2)) (Zaq (i:=5) ZeS.nd rfl (Or.inl rfl))
   (Zag (ZaM PassesOwn.never rfl (Zdq (pv 1)) (Zaq (i:=6) ZeS.nd rfl (Or.inl rfl))
   (Zai (Zac (Zam (i:=7) ZeS.nd rfl (Or.inl rfl) (Zat ZaW (pv 5) (pv 6)))
   (Zag (Zbj (PW.pt (Zft (Zfv (Zd8 hu1 (pv 7) (pv 2))) (Zdn (Zfv (ZiM hu1 (Za1 ZcR (pv 7) (Za2 Zaj) Zbq) (pv 2)))))) (Zag (ZaU (ZeW PySem.F.plainAttrs_list PySem.F.slot_list_append PySem.F.type_list_append Zbk (pv 4) (Zaa (pv 7) Zae)))) ZaB))))))))
   (Zag (Zay (pv 4)))))))),?_⟩
  have sz:∀k:Nat,k≤100000→k≤sizeLine:=fun k h=>Nat.le_trans h (by rw[sizeLine_eq];decide)
  have l40:=ok.l40
  have m4:=ok.m4
  walk_at "rd"
  intro p hp
  have s1:Same H (upd H p (.dK [])):=Zav hp
  have h1:upd H p (.dK []) p=some (.dK []):=Zad
  generalize upd H p (.dK [])=H1 at s1 h1
  have hb1:=s1 _ _ hb
  refine⟨b,rfl,⟨_,.mk hb1⟩,ForRun.list (xs:=[tx l]) (fun i σ H'=>∃v3 kvs,σ=[some (.ref b),some (tx m),some (.ref p),v3,none,none,none,none]∧Same H H'∧H' p=some (.dK kvs)∧(i=0→kvs=[])∧(i=1→ZhO l kvs)) ⟨_,[],rfl,s1,h1,fun _=>rfl,fun h=>by omega⟩ (fun i σ H' _ ⟨_,_,_,s',_⟩=>.mk (s' _ _ hb)) ?_ ?_⟩
  ·rintro i x σ H2 hx ⟨v3,kvs,rfl,s2,h2,k2,_⟩
   have hx':x=tx l:=by simpa using List.mem_of_getElem? hx
   have hi:i<1:=by have:=(List.getElem?_eq_some_iff.mp hx).1;simpa using this
   have ek:=k2 (by omega)
   subst hx' ek
   walk_at "rd"
   refine⟨p,rfl,.inl ⟨[],.inl h2⟩,l,rfl,l40,fun p2 more H3 s3 n3 h3 k3=>?_⟩
   have ml:=k3.2.2
   refine⟨p2,[],more,rfl,s3 _ _ h2,h3,Zaf h2 n3,sz _ (by rw[List.length_nil];omega),_,ZaD [] more,rfl,same_upd3 (s2.trans s3) hp,Zad,fun h=>by omega,fun _=>?_⟩
   rw[Zdw more [] (by rw[List.nil_append];exact k3.2.1),List.nil_append]
   exact k3
  ·rintro σ H2 ⟨v3,kvs,rfl,s2,h2,_,k2⟩
   have kn:=k2 rfl
   have n2:=kn.2.2
   walk_at "rd"
   refine Zal ?_
   walk_at "rd"
   refine⟨Nat.zero_le _,NewL.of fun pf H3 s3 n3 l3=>?_⟩
   have ne:p≠pf:=Zaf h2 n3
   have nfH:H pf=none:=s2.free n3
   obtain⟨ss,hs⟩:∃ss:List (List Nat),ss.map kTx=kvs.map (·.1):=ZfI fun kv hk=>let ⟨x,e,_⟩:=kn.1.1 kv hk;⟨x,e⟩
   have sl:ss.length=kvs.length:=by have:=congrArg List.length hs;simpa using this
   refine⟨p,kvs,s3 _ _ h2,p,kvs,rfl,s3 _ _ h2,fun o=>ForRun.dict (fun i σ H'=>∃(v5 v6 v7:Option V),σ=[some (.ref b),some (tx m),some (.ref p),v3,some (.ref pf),v5,v6,v7]∧Same H H'∧H' p=some (.frz o (.dK kvs))∧H' pf=some (.lst (((ss.take i).flatMap (Zcv kvs m)).map tx))) ⟨_,_,_,rfl,same_upd3 (s2.trans s3) hp,Zad,by rw[Zab (Ne.symm ne)];exact l3⟩ (fun i σ H' ⟨_,_,_,_,_,h,_⟩=>h) ?_ ?_⟩
   ·rintro i kv σ H4 hkv ⟨v5,v6,v7,rfl,s4,h4,f4⟩
    have hi:i<kvs.length:=(List.getElem?_eq_some_iff.mp hkv).1
    obtain⟨x,hx⟩:∃x,ss[i]?=some x:=⟨_,List.getElem?_eq_getElem (by omega)⟩
    have ex:kv.1=kTx x:=by
     have:=congrArg (fun l=>l[i]?) hs
     simp only[List.getElem?_map,hx,hkv,Option.map_some]at this
     exact(Option.some.inj this).symm
    have xi:Inf x l:=by
     obtain⟨y,ey,hy⟩:=kn.1.1 kv (List.mem_of_getElem? hkv)
     rw[ZaI (ex.symm.trans ey)];exact hy
    have xl0:=xi.len
    have fl:((ss.take i).flatMap (Zcv kvs m)).length≤12000:=by
     have:=ZaZ (f:=Zcv kvs m) (b:=4) (fun u=>by unfold Zcv;rw[List.length_map];exact Nat.le_trans (List.length_filter_le _ _) m4) (ss.take i)
     rw[List.length_take]at this
     omega
    rw[ex,Zgl]
    walk_at "rd"
    refine⟨m,rfl,ForRun.text (fun j σ H'=>∃(v6 v7:Option V),σ=[some (.ref b),some (tx m),some (.ref p),v3,some (.ref pf),some (tx x),v6,v7]∧Same H H'∧H' p=some (.frz o (.dK kvs))∧H' pf=some (.lst (((ss.take i).flatMap (Zcv kvs m)++((m.take j).filter (ZbJ kvs x)).map fun c=>x++[c]).map tx))) ⟨_,_,rfl,s4,h4,by rw[List.take_zero];simpa using f4⟩ ?_ ?_⟩
    ·rintro j c σ H5 hc ⟨v6,v7,rfl,s5,h5,f5⟩
     have hj:j<m.length:=(List.getElem?_eq_some_iff.mp hc).1
     have xl:(x++[c]).length≤41:=by rw[List.length_append,List.length_singleton];omega
     have fl2:((m.take j).filter (ZbJ kvs x)).length≤4:=Nat.le_trans (List.length_filter_le _ _) (by rw[List.length_take];omega)
     have tk:m.take (j+1)=m.take j++[c]:=by rw[List.take_add_one,hc];rfl
     walk_at "rd"
     refine Zal ?_
     walk_at "rd"
     have no:ZbJ kvs x c=false→((m.take (j+1)).filter (ZbJ kvs x))=(m.take j).filter (ZbJ kvs x):=fun h=>by rw[tk,List.filter_append,List.filter_cons,h];simp
     have c1:cut (x++[c]) (some 1) none=(x++[c]).drop 1:=Zb1 (x++[c]) 1
     refine⟨sz _ (by omega),p,_,rfl,.inl ⟨kvs,kTx (x++[c]),.inr ⟨o,h5⟩,rfl,rfl⟩,ite2 (fun h=>?_) (fun h=>?_)⟩
     ·refine⟨_,rfl,x++[c],rfl,sz _ (by omega),?_⟩
      rw[c1]
      refine⟨p,_,rfl,.inl ⟨kvs,kTx ((x++[c]).drop 1),.inr ⟨o,h5⟩,rfl,rfl⟩,ite2 (fun h2=>?_) (fun h2=>?_)⟩
      ·have yes:ZbJ kvs x c=true:=by unfold ZbJ;rw[h,h2];rfl
       refine⟨.inl ⟨rfl,_,.mk f5⟩,pf,_,_,rfl,rfl,f5,by rw[List.length_map,List.length_append,List.length_map];exact Nat.lt_of_lt_of_le (show _<100000 by omega) (sz 100000 (Nat.le_refl _)),_,_,rfl,same_upd3 s5 nfH,by rw[Zab ne];exact h5,?_⟩
       rw[Zad,tk,List.filter_append,List.filter_cons,yes]
       simp
      ·have n0:ZbJ kvs x c=false:=by unfold ZbJ;rw[Bool.eq_false_iff.mpr h2,Bool.and_false]
       exact⟨_,_,rfl,s5,h5,by rw[no n0];exact f5⟩
     ·have n0:ZbJ kvs x c=false:=by unfold ZbJ;rw[Bool.eq_false_iff.mpr h,Bool.false_and]
      exact⟨_,_,rfl,s5,h5,by rw[no n0];exact f5⟩
    ·rintro σ H5 ⟨v6,v7,rfl,s5,h5,f5⟩
     refine⟨_,_,_,rfl,s5,h5,?_⟩
     rw[f5,List.take_length,ZaC hx,List.flatMap_append]
     simp[Zcv]
   ·rintro σ H4 ⟨v5,v6,v7,rfl,s4,h4,f4⟩
    refine⟨o,kvs,h4,?_⟩
    walk_at "rd"
    rw[←sl,List.take_length]at f4
    exact q pf _ (upd H4 p (.dK kvs)) (same_upd3 s4 hp) (by rw[Zab (Ne.symm ne)];exact f4) (ZjG ok kn hs)
theorem Zjs:FnScope ["_law_words","_law_cell","_law_waiting","_law_found"] ["_law_words","_law_cell"] (Zah s_KS):=by walk_at "sc"
theorem Zk4 (T:TL K mg base a tb):FnOk P w K mg base CX0 2 a.f_KS a.d_KS ["_law_words","_law_cell"] (Zl5 K a):=by
 refine T.f_KS.ok Zjs (fun vs H Q E h=>?_) (fun cdv A outer s H vs Q E hr h=>?_)
 ·obtain⟨_,_,_,rfl,_⟩:=h;rfl
 ·have hu64:=hr.units
  have hu1:=ZaN hr
  obtain⟨b,ws,c,rfl,hb,hn,q⟩:=h
  refine⟨_,(Zac (Zam (i:=2) Zjs.nd rfl (Or.inl rfl) (Zan (ZdM rfl) rfl T.z_sorted ZcN (Zaa (pv 0) Zae)))
   (Zai (Zac (Zam (i:=3) Zjs.nd rfl (Or.inl rfl) (Zcb Zae))
   (Zai (Zac (Zdp PassesOwn.never (Zaw (Zdt (K:=K) rfl hu64) (pv 2) (Zcb Zae) (ZaH _))
   (Zag (ZaU (ZeW PySem.F.plainAttrs_list PySem.F.slot_list_append PySem.F.type_list_append Zbk (pv 3) (Zaa (ZeW PySem.F.plainAttrs_list PySem.F.slot_list_pop PySem.F.type_list_pop Zia (pv 2) (Zaa (Zat ZaS (Zak (ZbI T) (hr.mono (by decide)) rfl T.m_K9 T.f_K9.kp T.b_K9 .nil Zar (Zaa (pv 1) (Zaa (Zat ZaY Zaj (Zan (Zap (K:=K) rfl) rfl T.z_len ZaT (Zaa (pv 2) Zae))) Zae))) (Zan (Zap (K:=K) rfl) rfl T.z_len ZaT (Zaa (pv 2) Zae))) Zae)) Zae)))))
   (Zag (Zay (pv 3)))))))),?_⟩
  have sz:∀k:Nat,k≤2000→k≤sizeLine:=fun k h=>Nat.le_trans h (by rw[sizeLine_eq];decide)
  walk_at "rd"
  refine⟨b,ws,rfl,hb,sz _ (by omega),NewL.of fun pw H1 s1 n1 l1=>?_⟩
  show Zbp _ _ _ _
  refine Zal ?_
  walk_at "rd"
  refine⟨Nat.zero_le _,NewL.of fun pf H2 s2 n2 l2=>Zal ?_⟩
  walk_at "rd"
  have ne:pw≠pf:=Zaf l1 n2
  have nf:H pf=none:=s1.free n2
  have pm:=ZaK ws
  refine WhileRun.by (fun σ H'=>∃wa fo:List (List Nat),σ=[some (.ref b),some (.int c),some (.ref pw),some (.ref pf)]∧Same H H'∧H' pw=some (.lst (wa.map tx))∧H' pf=some (.lst (fo.map tx))∧(fo++wa).Perm ws) (fun σ H'=>match H' pw with | some (.lst xs)=>xs.length | _=>0) ⟨Zbn ws,[],rfl,s1.trans s2,s2 _ _ l1,l2,by rw[List.nil_append];exact pm⟩ ?_
  rintro σ H3 ⟨wa,fo,rfl,s3,h3,f3,pm3⟩
  have hl3:fo.length+wa.length=ws.length:=by rw[←List.length_append];exact pm3.length_eq
  refine⟨!wa.isEmpty,fun Q' hq=>?_,fun H4 s4=>?_⟩
  ·walk_at "rd"
   exact⟨Nat.zero_le _,NewL.of fun pz H5 s5 n5 l5=>ZjE (.mk (s5 _ _ h3)) (.mk l5) ⟨_,rfl,hq H5 s5⟩⟩
  ·cases wa with
   | nil=>
    refine iteF ?_
    walk_at "rd"
    exact q pf fo H4 (s3.trans s4) nf (s4 _ _ f3) (by rw[List.append_nil]at pm3;exact pm3)
   | cons w0 wr=>
    refine iteT ?_
    have h4:=s4 _ _ h3
    have f4:=s4 _ _ f3
    have s04:=s3.trans s4
    generalize hwa:w0::wr=wa at h3 h4 hl3 pm3
    have wl:1≤wa.length:=by rw[←hwa];simp
    walk_at "rd"
    refine⟨.inl ⟨rfl,_,.mk f4⟩,.inl ⟨rfl,_,.mk h4⟩,_,_,rfl,.inl ⟨_,.mk h4,rfl⟩,_,_,rfl,fun r hr=>?_⟩
    walk_at "rd?"
    refine⟨_,_,rfl,.inl ⟨_,.mk h4,rfl⟩,?_⟩
    rw[List.length_map]
    have lx0:(0:Int)<(wa.length:Nat):=by omega
    have m0:=Int.emod_nonneg r (show ((wa.length:Nat):Int)≠0 by omega)
    have m1:=Int.emod_lt_of_pos r lx0
    generalize r % ((wa.length:Nat):Int)=k at m0 m1
    have kl:k.toNat<wa.length:=by omega
    refine⟨lx0,pw,wa.map tx,k,k.toNat,tx wa[k.toNat],rfl,rfl,h4,by omega,by omega,?_,?_,?_⟩
    ·rw[List.length_map]
     have nk:¬k<0:=by omega
     simp[seqIndex?,nk,m0,m1]
    ·rw[List.getElem?_map,List.getElem?_eq_getElem kl]
     rfl
    refine⟨pf,fo.map tx,tx wa[k.toNat],rfl,rfl,by rw[Zab (Ne.symm ne)];exact f4,by rw[List.length_map];exact Nat.lt_of_lt_of_le (show _<2000 by omega) (sz 2000 (Nat.le_refl _)),?_⟩
    refine⟨⟨wa.eraseIdx k.toNat,fo++[wa[k.toNat]],by trivial,same_upd3 (same_upd3 s04 n1) nf,?_,?_,?_⟩,?_⟩
    ·rw[Zab ne,Zad,Zcy]
    ·rw[Zad];simp
    ·rw[List.append_assoc]
     exact((Ze5 kl).append_left fo).trans pm3
    ·show (match upd (upd H4 pw (HO.lst ((wa.map tx).eraseIdx k.toNat))) pf (HO.lst (fo.map tx++[tx wa[k.toNat]])) pw with | some (.lst xs)=>xs.length | _=>0)<_
     rw[Zab ne,Zad,h3]
     show ((wa.map tx).eraseIdx k.toNat).length<(wa.map tx).length
     rw[Zcy,List.length_map,List.length_map,List.length_eraseIdx_of_lt kl]
     omega
theorem ZmA:FnScope ["thing"] ["thing"] (Zah s_KK):=by walk_at "sc"
theorem Zk6 (T:TL K mg base a tb):FnOk P w K mg base CX0 3 a.f_KK a.d_KK ["thing"] (Zmd K a):=by
 refine T.f_KK.ok ZmA (fun vs H Q E h=>?_) (fun cdv A outer s H vs Q E hr h=>?_)
 ·obtain⟨_,rfl,_⟩:=h;rfl
 ·have hu64:=hr.units
  have hu1:=ZaN hr
  obtain⟨l,rfl,hl,hk,q⟩:=h
  refine⟨_,(Zag (Zbj (Zcr (ZbN (Zak (Zm1 T) (hr.mono (by decide)) rfl T.m_KR T.f_KR.kp T.b_KR .nil Zar (Zaa (pv 0) Zae)))) (Zag Zd4) ZaB)),?_⟩
  walk_at "rd"
  refine⟨l,rfl,hl,fun H2 s2=>⟨_,rfl,?_⟩⟩
  rw[hk,Bool.not_true]
  exact iteF (q H2 s2)
theorem Zmy:FnScope ["thing","kinds","most"] ["thing","kinds","most"] (Zah s_KN):=by walk_at "sc"
theorem Zm4 (T:TL K mg base a tb):FnOk P w K mg base CX0 3 a.f_KN a.d_KN ["thing","kinds","most"] (Zma K a):=by
 refine T.f_KN.ok Zmy (fun vs H Q E h=>?_) (fun cdv A outer s H vs Q E hr h=>?_)
 ·obtain⟨_,_,_,rfl,_⟩:=h;rfl
 ·have hu64:=hr.units
  have hu1:=ZaN hr
  obtain⟨l,m,most,rfl,hl,hk,q⟩:=h
  refine⟨_,(Zag (Zbj (Zcr (ZbN (Zak (Zk2 T) (hr.mono (by decide)) rfl T.m_KV T.f_KV.kp T.b_KV .nil Zar (Zaa (pv 0) (Zaa (pv 1) (Zaa (pv 2) Zae)))))) (Zag Zd4) ZaB)),?_⟩
  walk_at "rd"
  refine⟨l,m,most,rfl,hl,fun H2 s2=>⟨_,rfl,?_⟩⟩
  rw[hk,Bool.not_true]
  exact iteF (q H2 s2)
theorem Zf6:FnScope ["self","found","shorter","length","standing"] ["self"] (Zah s_KD):=by walk_at "sc"
theorem Zm9 (T:TL K mg base a tb):FnOk P w K mg base CX0 3 a.g_KD a.e_KD ["self"] (Zmh K a):=by
 refine T.fm_KD.ok Zf6 (fun vs H Q E h=>?_) (fun cdv A outer s H vs Q E hr h=>?_)
 ·obtain⟨_,_,_,rfl,_⟩:=h;rfl
 ·have hu64:=hr.units
  have hu1:=ZaN hr
  obtain⟨p,l,m,rfl,hp,ok,q⟩:=h
  refine⟨_,(Zac (Zam (i:=1) Zf6.nd rfl (Or.inl rfl) (Zcb Zae))
   (Zac (Zam (i:=2) Zf6.nd rfl (Or.inl rfl) (ZeU (pv 0) T.cl_K3 T.me_Plain_words (Zk7 T) (hr.mono (by decide)) T.b_KG .nil Zar (Zaa Zaj Zae)))
   (Zac (ZaM PassesOwn.never rfl (Zcs rfl T.z_range (Zaa Zaj (Zaa (Zat ZaY (Zfy (pv 0) T.cl_K3 T.me_Plain_reach (Zm8 T) (hr.mono (by decide)) T.b_KF .nil Zar) Zaj) Zae))) (Zaq (i:=3) Zf6.nd rfl (Or.inl rfl))
   (Zac (Zam (i:=4) Zf6.nd rfl (Or.inl rfl) (ZeU (pv 0) T.cl_K3 T.me_Plain_words (Zk7 T) (hr.mono (by decide)) T.b_KG .nil Zar (Zaa (pv 3) Zae)))
   (Zac (ZaU (ZeW PySem.F.plainAttrs_list PySem.F.slot_list_extend PySem.F.type_list_extend Zg9 (pv 1) (Zaa (Zak (Znd T) (hr.mono (by decide)) rfl T.m_K4 T.f_K4.kp T.b_K4 .nil Zar (Zaa (pv 2) (Zaa (pv 4) (Zaa (ZeV (K:=K) rfl (pv 0) rfl) Zae)))) Zae)))
   (Zag (Zam (i:=2) Zf6.nd rfl (Or.inl rfl) (pv 4))))))
   (Zag (Zay (pv 1)))))),?_⟩
  obtain⟨dx,hp⟩:=hp
  have l40:=ok.l40
  have m4:=ok.m4
  walk_at "rd"
  refine⟨Nat.zero_le _,NewL.of fun pf H1 s1 nf lf=>?_⟩
  refine⟨p,dx,_,rfl,s1 _ _ hp,ZcH (by decide +kernel) (by decide +kernel),p,l,m,0,rfl,⟨dx,s1 _ _ hp⟩,ok,Nat.zero_le _,fun q0 H2 s2 n2 e2=>?_⟩
  refine⟨p,dx,_,rfl,(s1.trans s2) _ _ hp,ZcH (by decide +kernel) (by decide +kernel),p,l,m,rfl,⟨dx,(s1.trans s2) _ _ hp⟩,ok,?_⟩
  walk_at "rd"
  have ej:((l.length:Nat)+1+1-1:Int).toNat=l.length+1:=by omega
  refine⟨_,_,rfl,⟨by omega,by omega,by omega,by omega⟩,?_⟩
  rw[ej]
  refine ForRun.range (fun i σ H'=>∃(v3 v4:Option V) (q0:Addr),σ=[some (.ref p),some (.ref pf),some (.ref q0),v3,v4]∧Same H H'∧H' pf=some (.lst ((ZbW l m i).map tx))∧H' q0=some (.lst ((wordsOf l i).map tx))∧pf≠q0) ⟨_,_,q0,rfl,s1.trans s2,s2 _ _ lf,e2,Zaf lf n2⟩ ?_ ?_
  ·rintro i σ H3 hi ⟨v3,v4,q0,rfl,s3,h3,h4,ne0⟩
   have e1:(1+(i:Int))=((i+1:Nat):Int):=by omega
   have ll:=Zc8 (l:=l) (m:=m) (i:=i) m4 l40 (by omega)
   have la:=Zc8 (l:=l) (m:=m) (i:=i+1) m4 l40 (by omega)
   rw[ZcC,List.length_append]at la
   rw[e1]
   walk_at "rd"
   refine⟨p,dx,_,rfl,s3 _ _ hp,ZcH (by decide +kernel) (by decide +kernel),p,l,m,i+1,rfl,⟨dx,s3 _ _ hp⟩,ok,by omega,fun q1 H4 s4 n4 e4=>?_⟩
   have h3':=s4 _ _ h3
   have ne1:pf≠q1:=Zaf h3 n4
   refine⟨.inl ⟨rfl,_,.mk h3'⟩,p,_,dx,_,_,rfl,(s3.trans s4) _ _ hp,T.cl_K3,T.n_Plain_own_kinds,Zgp,?_⟩
   refine⟨q0,q1,wordsOf l i,wordsOf l (i+1),m,rfl,s4 _ _ h4,e4,by have:=Zch l i;omega,m4,fun w hw=>by have:=(ZaF (l:=l) (by omega)).mp hw;omega,fun r H5 s5 n5 e5=>?_⟩
   refine⟨pf,r,_,_,rfl,rfl,s5 _ _ h3',e5,by rw[List.length_map,List.length_map,sizeLine_eq];omega,_,_,q1,rfl,same_upd3 (s3.trans (s4.trans s5)) nf,?_,?_,ne1⟩
   ·rw[Zad,ZcC,List.map_append]
   ·rw[Zab (Ne.symm ne1)]
    exact s5 _ _ e4
  ·rintro σ H3 ⟨v3,v4,q0,rfl,s3,h3,h4,ne0⟩
   walk_at "rd"
   exact q pf H3 s3 h3
theorem ZeT:FnScope ["_law_cell","_law_way","_law_kinds_here","_law_most","_law_many","_law_base","_law_text_here","_law_at"] ["_law_cell","_law_way","_law_kinds_here","_law_most"] (Zah s_K8):=by walk_at "sc"
theorem Znb (T:TL K mg base a tb):FnOk P w K mg base CX0 3 a.f_K8 a.d_K8 ["_law_cell","_law_way","_law_kinds_here","_law_most"] (Zmk K a):=by
 refine T.f_K8.ok ZeT (fun vs H Q E h=>?_) (fun cdv A outer s H vs Q E hr h=>?_)
 ·obtain⟨_,_,_,rfl,_⟩:=h;rfl
 ·have hu64:=hr.units
  have hu1:=ZaN hr
  obtain⟨c,d,m,rfl,hm,h4,q⟩:=h
  refine⟨_,(Zac (Zam (i:=4) ZeT.nd rfl (Or.inl rfl) (Zat ZaS (Zak (ZbI T) (hr.mono (by decide)) rfl T.m_K9 T.f_K9.kp T.b_K9 .nil Zar (Zaa (pv 1) (Zaa Zaj Zae))) Zaj))
   (Zai (Zac (Zbj (Zaw (Za8 (K:=K) rfl hu64) (Zat ZaS (Zak (ZbI T) (hr.mono (by decide)) rfl T.m_K9 T.f_K9.kp T.b_K9 .nil Zar (Zaa (pv 1) (Zaa Zaj Zae))) Zaj) Zaj (ZaH _)) (Zag (Zam (i:=4) ZeT.nd rfl (Or.inl rfl) (Zat ZaS (Zak (ZbI T) (hr.mono (by decide)) rfl T.m_K9 T.f_K9.kp T.b_K9 .nil Zar (Zaa (pv 1) (Zaa Zaj Zae))) (Zat ZaY (pv 3) Zaj)))) ZaB)
   (Zai (Zac (Zbj (Zaw Zgc (Zat ZaS (Zak (ZbI T) (hr.mono (by decide)) rfl T.m_K9 T.f_K9.kp T.b_K9 .nil Zar (Zaa (pv 1) (Zaa Zaj Zae))) Zaj) Zaj (ZaH _)) (Zag (Zay (Zak (Zk8 T) (hr.mono (by decide)) rfl T.m_K5 T.f_K5.kp T.b_K5 .nil Zar (Zaa (pv 0) (Zaa (ZbH (Za8 (K:=K) rfl hu64) (Zat ZaS (Zak (ZbI T) (hr.mono (by decide)) rfl T.m_K9 T.f_K9.kp T.b_K9 .nil Zar (Zaa (pv 1) (Zaa Zaj Zae))) Zaj) Zaj (ZaH _)) (Zaa (pv 2) (Zaa (pv 4) Zae))))))) ZaB)
   (Zai (Zac (Zam (i:=5) ZeT.nd rfl (Or.inl rfl) (Zak (Zk8 T) (hr.mono (by decide)) rfl T.m_K5 T.f_K5.kp T.b_K5 .nil Zar (Zaa (pv 0) (Zaa (ZbH (Za8 (K:=K) rfl hu64) (Zat ZaS (Zak (ZbI T) (hr.mono (by decide)) rfl T.m_K9 T.f_K9.kp T.b_K9 .nil Zar (Zaa (pv 1) (Zaa Zaj Zae))) Zaj) Zaj (ZaH _)) (Zaa (pv 2) (Zaa (Zat ZaY Zaj (Zat ZaS (Zak (ZbI T) (hr.mono (by decide)) rfl T.m_K9 T.f_K9.kp T.b_K9 .nil Zar (Zaa (pv 1) (Zaa Zaj Zae))) Zaj)) Zae))))))
   (Zac (Zam (i:=6) ZeT.nd rfl (Or.inl rfl) (Za1 ZcR (Zat Zg2 (pv 5) (pv 4)) Zbq (Za2 (pv 4))))
   (Zai (Zac (Zbj (PW.pt (Zft (Zaw Zgc (pv 4) Zaj (ZaH _)) (Zdn (Zaw (Za8 (K:=K) rfl hu64) (Zat ZaS (Zak (ZbI T) (hr.mono (by decide)) rfl T.m_K9 T.f_K9.kp T.b_K9 .nil Zar (Zaa (pv 1) (Zaa Zaj Zae))) Zaj) Zaj (ZaH _))))) (Zac (Zam (i:=7) ZeT.nd rfl (Or.inl rfl) (Zat ZaS (Zak (ZbI T) (hr.mono (by decide)) rfl T.m_K9 T.f_K9.kp T.b_K9 .nil Zar (Zaa (pv 1) (Zaa Zaj Zae))) (pv 4)))
   (Zag (Zam (i:=6) ZeT.nd rfl (Or.inl rfl) (Zat ZaW (Zat ZaW (Za1 ZcR (pv 6) Zbq (Za2 (pv 7))) (Zf8 Zii (pv 2) (Zat ZaS (Zak (ZbI T) (hr.mono (by decide)) rfl T.m_K9 T.f_K9.kp T.b_K9 .nil Zar (Zaa (pv 1) (Zaa Zaj Zae))) (Zan (Zap (K:=K) rfl) rfl T.z_len ZaT (Zaa (pv 2) Zae))) (fun _ _=>rfl))) (Za1 ZcR (pv 6) (Za2 (Zat ZaY (pv 7) Zaj)) Zbq))))) ZaB)
   (Zag (Zay (pv 6))))))))))))),?_⟩
  have sz:∀k:Nat,k≤3000→k≤sizeLine:=fun k h=>Nat.le_trans h (by rw[sizeLine_eq];decide)
  have szm:m.length≤sizeLine:=sz _ (by omega)
  have pm:(0:Int)<m.length:=by omega
  walk_at "rd"
  refine⟨_,_,rfl,fun r0 h0=>?_⟩
  walk_at "rd?"
  have g1:=Int.emod_nonneg r0 (show (13:Int)≠0 by decide)
  have g2:=Int.emod_lt_of_pos r0 (show (0:Int)<13 by decide)
  refine⟨by decide,Zal ?_⟩
  generalize r0 % 13=a0 at g1 g2
  walk_at "rd"
  refine⟨_,_,rfl,fun r1 h1=>?_⟩
  walk_at "rd?"
  apply ZcY (C:=fun n=>0≤n∧n≤40)
  ·intro tail
   refine⟨by decide,.inl ⟨rfl,_,rfl,ite2 (fun h=>?A) (fun h=>?B)⟩⟩
   case A=>
    refine⟨_,_,rfl,fun r2 h2=>?_⟩
    walk_at "rd?"
    refine⟨by decide,?_⟩
    have g3:=Int.emod_nonneg r2 (show (40+1:Int)≠0 by decide)
    have g4:=Int.emod_lt_of_pos r2 (show (0:Int)<40+1 by decide)
    generalize r2 % (40+1)=a2 at g3 g4
    exact tail a2 ⟨g3,by omega⟩
   case B=>exact tail a0 ⟨g1,by omega⟩
  ·rintro n ⟨n0,n40⟩
   refine Zal ?_
   walk_at "rd"
   refine⟨_,_,rfl,fun r3 h3=>?_⟩
   walk_at "rd?"
   refine⟨by decide,ite2 (fun h=>?_) (fun h=>Zal ?_)⟩
   ·refine⟨_,_,rfl,fun r4 h4'=>?_⟩
    walk_at "rd?"
    exact⟨by decide,.inl ⟨rfl,c,_,m,n,rfl,hm,h4,n0,by omega,fun w hw wm=>q w (by omega) wm⟩⟩
   ·walk_at "rd"
    refine⟨_,_,rfl,fun r4 h4'=>?_⟩
    walk_at "rd?"
    refine⟨by decide,.inl ⟨rfl,_,_,rfl,fun r5 h5=>?_⟩⟩
    walk_at "rd?"
    refine⟨by decide,c,_,m,_,rfl,hm,h4,by omega,by omega,fun bs hbs bm=>?_⟩
    walk_at "rd?"
    have bl:bs.length≤5:=by omega
    have rl:(repT bs n).length=n.toNat*bs.length:=Zh1 bs n
    have rb:n.toNat*bs.length≤40*5:=Nat.mul_le_mul (by omega) bl
    have cl:(cut (repT bs n) none (some n)).length=n.toNat:=by
     have:n.toNat≤n.toNat*bs.length:=Nat.le_mul_of_pos_right _ (by omega)
     rw[ZlJ _ n0,List.length_take,rl]
     omega
    have cm:∀x∈cut (repT bs n) none (some n),x∈m:=fun x hx=>bm x (Zh0 (Ze0 hx))
    refine⟨bs,n,rfl,rfl,n0,by omega,by omega,_,rfl,repT bs n,rfl,sz _ (by omega),Zal ?_⟩
    generalize cut (repT bs n) none (some n)=tt at cl cm
    walk_at "rd"
    refine ite2 (fun h=>?_) (fun h=>iteF (q tt (by omega) cm))
    have hn:=of_decide_eq_true h
    refine⟨_,_,rfl,fun r6 h6=>?_⟩
    walk_at "rd?"
    refine⟨by decide,.inl ⟨rfl,_,rfl,ite2 (fun h=>?_) (fun h=>q tt (by omega) cm)⟩⟩
    refine⟨_,_,rfl,fun r7 h7=>?_⟩
    walk_at "rd?"
    have e1:=Int.emod_nonneg r7 (show n≠0 by omega)
    have e2:=Int.emod_lt_of_pos r7 hn
    refine⟨hn,_,rfl,tt,rfl,sz _ (by omega),?_⟩
    generalize r7 % n=at_ at e1 e2
    refine⟨_,_,rfl,fun r8 h8=>⟨_,_,rfl,ZbV (by omega),?_⟩⟩
    walk_at "rd?"
    obtain⟨cc,hcc,mc⟩:=Zi7 (xs:=m) (i:=r8 % m.length) (Int.emod_nonneg _ (by omega)) (Int.emod_lt_of_pos _ pm)
    have t1:=ZlJ tt (i:=at_) e1
    have t2:=Zj6 tt (i:=at_+1) (by omega)
    have t3:(cut tt none (some at_)).length=at_.toNat:=by rw[t1,List.length_take];omega
    have t4:(cut tt (some (at_+1)) none).length=n.toNat-(at_.toNat+1):=by rw[t2,List.length_drop];omega
    refine⟨pm,m,_,cc,rfl,rfl,szm,hcc,sz _ (by omega),_,rfl,tt,rfl,sz _ (by omega),sz _ (by rw[List.length_append,List.length_singleton];omega),q _ (by rw[List.length_append,List.length_append,List.length_singleton];omega) fun x hx=>?_⟩
    rcases List.mem_append.mp hx with z | z
    ·rcases List.mem_append.mp z with z | z
     ·exact cm x (Ze0 z)
     ·rw[List.mem_singleton.mp z];exact mc
    ·exact cm x (Ze0 z)
theorem Zjt:FnScope ["words","kinds","ahead","word"] ["words","kinds"] (Zah s_KM):=by walk_at "sc"
theorem Zm5 (T:TL K mg base a tb):FnOk P w K mg base CX0 4 a.f_KM a.d_KM ["words","kinds"] (Zmb K a):=by
 refine T.f_KM.ok Zjt (fun vs H Q E h=>?_) (fun cdv A outer s H vs Q E hr h=>?_)
 ·obtain⟨_,_,_,_,rfl,_⟩:=h;rfl
 ·have hu64:=hr.units
  have hu1:=ZaN hr
  obtain⟨b,ws,l,m,rfl,hb,ok,lk,q⟩:=h
  refine⟨_,(Zac (ZaU (Zak (Zk6 T) (hr.mono (by decide)) rfl T.m_KK T.f_KK.kp T.b_KK .nil Zar (Zaa (pv 1) Zae)))
   (Zai (Zac (Zbj (PW.pt (Zd3 (Zcr (ZbN (Zan (Zbc (K:=K) rfl) rfl T.z_isinstance Za6 (Zaa (pv 0) (Zaa (Zds (v:=.ty "list") rfl T.z_list Zff rfl) Zae))))) (Zd2 (Zaw Zgc (Zan (Zap (K:=K) rfl) rfl T.z_len ZaT (Zaa (pv 0) Zae)) (ZbQ rfl T.c_KI) (ZaH _))))) (Zag Zd4) ZaB)
   (Zai (Zac (Zam (i:=2) Zjt.nd rfl (Or.inl rfl) Zbx)
   (Zai (Zag (ZaM PassesOwn.never rfl (ZaV (K:=K) rfl (pv 0)) (Zaq (i:=3) Zjt.nd rfl (Or.inl rfl))
   (Zac (Zbj (PW.pt (Zd3 (Zcr (ZbN (Zak (Zk2 T) (hr.mono (by decide)) rfl T.m_KV T.f_KV.kp T.b_KV .nil Zar (Zaa (pv 3) (Zaa (pv 1) (Zaa (ZbQ rfl T.c_KE) Zae)))))) (Zd3 (Zaw (Za8 (K:=K) rfl hu64) (pv 3) (Zbo (l:=[]) (by decide +kernel)) (ZaH _)) (Zd2 (Zfv (ZiM hu1 (pv 3) (pv 2))))))) (Zag Zd4) ZaB)
   (Zag (ZbG hu1 (pv 2) (pv 3) Zd7 rfl))))))))))),?_⟩
  have sz:∀k:Nat,k≤1000→k≤sizeLine:=fun k h=>Nat.le_trans h (by rw[sizeLine_eq];decide)
  have ln:=lk.len ok
  have m4:=ok.m4
  walk_at "rd"
  refine⟨m,rfl,by omega,ok.k,fun H1 s1=>?_⟩
  have h1:=s1 _ _ hb
  show Zbp _ _ _ _
  refine Zal ?_
  walk_at "rd"
  refine⟨_,_,_,_,true,rfl,rfl,.ty (.seqL (.mk h1)),ZfH,iteF ⟨_,_,rfl,.inl ⟨_,.mk h1,rfl⟩,ite2 (fun h=>absurd (of_decide_eq_true h) (by rw[List.length_map];omega)) (fun _=>Zal ?_)⟩⟩
  walk_at "rd"
  intro pd npd
  have s2:Same H1 (upd H1 pd (.dK [])):=Zav npd
  have l2:upd H1 pd (.dK []) pd=some (.dK []):=Zad
  generalize upd H1 pd (.dK [])=H2 at s2 l2
  refine Zal ?_
  walk_at "rd"
  refine⟨b,rfl,⟨_,.mk (s2 _ _ h1)⟩,ForRun.list (xs:=ws.map tx) (fun i σ H'=>∃v3 kvs,σ=[some (.ref b),some (tx m),some (.ref pd),v3]∧Same H1 H'∧H' pd=some (.dK kvs)∧kvs.length≤i∧∀w,(valV kvs (kTx w)).isSome=true↔w∈ws.take i) ⟨_,[],rfl,s2,l2,Nat.le_refl _,fun w=>by rw[List.take_zero];exact Iff.intro (fun z=>Bool.noConfusion z) (fun z=>nomatch z)⟩ (fun i σ H' _ ⟨_,_,_,s,_⟩=>.mk (s _ _ h1)) ?_ ?_⟩
  ·rintro i x σ H3 hx ⟨v3,kvs,rfl,s3,h3,nk,hv⟩
   obtain⟨w_,hw,rfl⟩:=Zcw hx
   have hlt:=(List.getElem?_eq_some_iff.mp hw).1
   have mw:=List.mem_of_getElem? hw
   have w41:=lk.w41 ok mw
   have ni:w_∉ws.take i:=Zby (lk.nd ok) hw
   walk_at "rd"
   refine⟨w_,m,41,rfl,by omega,fun H4 s4=>⟨_,rfl,?_⟩⟩
   rw[ZjR (by omega) (lk.wm ok mw)]
   refine iteF (.inl ⟨rfl,_,rfl,?_⟩)
   rw[if_neg Bool.false_ne_true,Zeu,decide_eq_false (lk.ne mw)]
   have h4:=s4 _ _ h3
   refine iteF ⟨pd,_,rfl,DGet.k (k:=kTx w_) h4,?_⟩
   have ev:(valV kvs (kTx w_)).isSome=false:=Bool.eq_false_iff.mpr fun z=>ni ((hv w_).mp z)
   rw[ev]
   refine iteF ⟨pd,_,rfl,DPut.k (k:=kTx w_) h4 (Nat.lt_of_lt_of_le (show _<1000 by omega) (sz 1000 (Nat.le_refl _))),_,putK kvs (kTx w_) (.bl true),rfl,same_upd3 (s3.trans s4) npd,Zad,?_,fun w'=>?_⟩
   ·have:=ZaA kvs (kTx w_) (.bl true);omega
   ·rw[ZaO,ZaC hw,List.mem_append,List.mem_singleton]
    by_cases e:w'=w_
    ·rw[if_pos (by rw[e])];exact Iff.intro (fun _=>.inr e) (fun _=>rfl)
    ·rw[if_neg (fun z=>e (ZaI z)),hv];exact Iff.intro .inl (fun z=>z.elim id (fun z=>absurd z e))
  ·rintro σ H3 ⟨v3,kvs,rfl,s3,h3,nk,hv⟩
   exact q H3 (s1.trans s3)
theorem ZmB:FnScope ["self","text","kinds"] ["self","text","kinds"] (Zah s_KJ):=by walk_at "sc"
theorem Zm7 (T:TL K mg base a tb):FnOk P w K mg base CX0 4 a.g_KJ a.e_KJ ["self","text","kinds"] (Zme K a):=by
 refine T.fm_KJ.ok ZmB (fun vs H Q E h=>?_) (fun cdv A outer s H vs Q E hr h=>?_)
 ·obtain⟨_,_,_,_,rfl,_⟩:=h;rfl
 ·have hu64:=hr.units
  have hu1:=ZaN hr
  obtain⟨p,dx,l,m,rfl,hp,ok,q⟩:=h
  refine⟨_,(Zac (ZaU (Zak (Zk6 T) (hr.mono (by decide)) rfl T.m_KK T.f_KK.kp T.b_KK .nil Zar (Zaa (pv 2) Zae)))
   (Zac (ZaU (Zak (Zm4 T) (hr.mono (by decide)) rfl T.m_KN T.f_KN.kp T.b_KN .nil Zar (Zaa (pv 1) (Zaa (pv 2) (Zaa (ZbQ rfl T.c_KB) Zae)))))
   (Zag (ZaU (Zh5 rfl T.m_LB T.cr_LB (Zm6 T) (hr.mono (by decide)) T.kp_KL T.b_KL .nil Zar (Zaa (pv 0) (Zaa (pv 1) (Zaa (pv 2) Zae)))))))),?_⟩
  walk_at "rd"
  have m4:=ok.m4
  have l40:=ok.l40
  refine⟨m,rfl,by omega,ok.k,fun H1 s1=>?_⟩
  walk_at "rd?"
  refine⟨l,m,40,rfl,by omega,Zlp ok,fun H2 s2=>?_⟩
  walk_at "rd?"
  exact⟨p,dx,l,m,rfl,s1.trans s2 _ _ hp,fun H3 r k=>q H3 r fun b o e ne=>k b o (s1.trans s2 _ _ e) ne⟩
theorem ZkH:FnScope ["words","kinds","text","word"] ["words","kinds","text"] (Zah s_KY):=by walk_at "sc"
theorem ZmX (T:TL K mg base a tb):FnOk P w K mg base CX0 6 a.f_KY a.d_KY ["words","kinds","text"] (ZlZ K a):=by
 refine T.f_KY.ok ZkH (fun vs H Q E h=>?_) (fun cdv A outer s H vs Q E hr h=>?_)
 ·obtain⟨_,_,_,_,rfl,_⟩:=h;rfl
 ·have hu64:=hr.units
  have hu1:=ZaN hr
  obtain⟨b,ws,l,m,rfl,hb,ok,lk,q⟩:=h
  refine⟨_,(Zag (ZaM PassesOwn.never rfl (ZaV (K:=K) rfl (Zfy (ZjA T.mk_K3 (Zm7 T) (hr.mono (by decide)) rfl T.m_K3 T.b_KJ .nil Zar (Zaa (pv 2) (Zaa (pv 1) Zae))) T.cl_K3 T.me_Plain_lacking (Zm9 T) (hr.mono (by decide)) T.b_KD .nil Zar)) (Zaq (i:=3) ZkH.nd rfl (Or.inl rfl))
   (Zag (Zbj (ZbN (Zak (Zk1 T) (hr.mono (by decide)) rfl T.m_KZ T.f_KZ.kp T.b_KZ .nil Zar (Zaa (pv 0) (Zaa (pv 3) Zae)))) (Zag Zd4) ZaB)))),?_⟩
  have ln:=lk.len ok
  walk_at "rd"
  intro pr dr npr ndr ner
  refine⟨pr,dr,l,m,rfl,Zad,ok,fun H1 r1 k1=>⟨rfl,?_⟩⟩
  have s1:Same H H1:=fun b o e=>k1 b o (by rw[Zab (Zaf e npr),Zab (Zaf e ndr)];exact e) (Zaf e npr)
  obtain⟨d1,r1'⟩:=id r1
  refine⟨pr,d1,_,rfl,r1',ZcH (by decide +kernel) (by decide +kernel),pr,l,m,rfl,r1,ok,fun qw H2 s2 e2=>?_⟩
  refine⟨qw,rfl,⟨_,.mk e2⟩,ForRun.list (xs:=(Za3 l m).map tx) (fun i σ H'=>∃v3,σ=[some (.ref b),some (tx m),some (tx l),v3]∧Same H2 H') ⟨_,rfl,Same.refl _⟩ (fun i σ H' _ ⟨_,_,s'⟩=>.mk (s' _ _ e2)) ?_ ?_⟩
  ·rintro i x σ H3 hx ⟨v3,rfl,s3⟩
   obtain⟨w_,hw,rfl⟩:=Zcw hx
   have mw:=lk.mem.mpr (List.mem_of_getElem? hw)
   have w41:=lk.w41 ok mw
   walk_at "rd"
   refine⟨b,ws,w_,rfl,s3 _ _ (s2 _ _ (s1 _ _ hb)),by omega,by omega,fun H4 s4=>⟨_,rfl,ite2 (fun h=>?_) (fun _=>⟨_,rfl,s3.trans s4⟩)⟩⟩
   exact(Zfg.mp h) w_ mw (Inf.refl _)
  ·rintro σ H3 ⟨v3,rfl,s3⟩
   exact q H3 ((s1.trans s2).trans s3)
theorem ZgQ:FnScope ["words","kinds","ordered","ways","ended","text"] ["words","kinds"] (Zah s_KU):=by walk_at "sc"
theorem Zk3 (T:TL K mg base a tb):FnOk P w K mg base CX0 7 a.f_KU a.d_KU ["words","kinds"] (Zl3 K a):=by
 refine T.f_KU.ok ZgQ (fun vs H Q E h=>?_) (fun cdv A outer s H vs Q E hr h=>?_)
 ·obtain⟨_,_,_,_,rfl,_⟩:=h;rfl
 ·have hu64:=hr.units
  have hu1:=ZaN hr
  obtain⟨b,ws,l,m,rfl,hb,ok,lk,tk,q⟩:=h
  refine⟨_,(Zac (ZaU (Zak (Zm5 T) (hr.mono (by decide)) rfl T.m_KM T.f_KM.kp T.b_KM .nil Zar (Zaa (pv 0) (Zaa (pv 1) Zae))))
   (Zai (Zac (Zam (i:=2) ZgQ.nd rfl (Or.inl rfl) (Zak (Zm2 T) (hr.mono (by decide)) rfl T.m_KQ T.f_KQ.kp T.b_KQ .nil Zar (Zaa (pv 0) Zae)))
   (Zai (Zac (ZaU (Zak (Zm0 T) (hr.mono (by decide)) rfl T.m_KT T.f_KT.kp T.b_KT .nil Zar (Zaa (pv 2) Zae)))
   (Zai (Zac (Zam (i:=3) ZgQ.nd rfl (Or.inl rfl) (Zak (ZmV T) (hr.mono (by decide)) rfl T.m_LC T.f_LC.kp T.b_LC .nil Zar (Zaa (pv 2) (Zaa (pv 1) Zae))))
   (Zai (Zac (Zam (i:=4) ZgQ.nd rfl (Or.inl rfl) (Zak (Znc T) (hr.mono (by decide)) rfl T.m_K6 T.f_K6.kp T.b_K6 .nil Zar (Zaa (pv 3) Zae)))
   (Zai (Zac (Zbj (Zaw (ZbR (K:=K) rfl) (Zbo (l:=[]) (by decide +kernel)) (pv 4) rfl) (Zag Zd4) ZaB)
   (Zai (Zac (Zam (i:=5) ZgQ.nd rfl (Or.inl rfl) (Zak (ZmZ T) (hr.mono (by decide)) rfl T.m_KW T.f_KW.kp T.b_KW .nil Zar (Zaa (pv 3) (Zaa (pv 4) Zae))))
   (Zai (Zac (Zbj (Zaw Zgc (Zan (Zap (K:=K) rfl) rfl T.z_len ZaT (Zaa (pv 5) Zae)) (ZbQ rfl T.c_KB) (ZaH _)) (Zag Zd4) ZaB)
   (Zai (Zac (ZaU (Zak (ZmX T) (hr.mono (by decide)) rfl T.m_KY T.f_KY.kp T.b_KY .nil Zar (Zaa (pv 2) (Zaa (pv 1) (Zaa (pv 5) Zae)))))
   (Zai (Zag (Zay (pv 5))))))))))))))))))))),?_⟩
  walk_at "rd"
  refine⟨b,ws,l,m,rfl,hb,ok,lk,fun H1 s1=>?_⟩
  show Zbp _ _ _ _
  refine Zal ?_
  walk_at "rd"
  have h1:=s1 _ _ hb
  refine⟨b,ws,rfl,h1,fun w hw=>Nat.le_trans (lk.w41 ok hw) (by decide),tk.same s1,fun ws' r H2 pm _ s2 tk2 nr h2=>?_⟩
  have lk':ListOk l m ws':=pm.trans lk
  show Zbp _ _ _ _
  refine Zal ?_
  walk_at "rd"
  refine⟨r,ws',l,m,rfl,h2,ok,lk',fun H3 s3=>?_⟩
  show Zbp _ _ _ _
  refine Zal ?_
  walk_at "rd"
  have h3:=s3 _ _ h2
  refine⟨r,ws',l,m,rfl,h3,ok,lk',fun pw kw ss H4 s4 n4 h4 wl sl=>?_⟩
  show Zbp _ _ _ _
  refine Zal ?_
  walk_at "rd"
  refine⟨pw,kw,ws',ss,l,m,rfl,h4,wl,sl,ok,lk',fun pe es H5 s5 n5 h5 en=>?_⟩
  show Zbp _ _ _ _
  refine Zal ?_
  walk_at "rd"
  refine⟨pe,es.map tx,rfl,.inl (.mk h5),rfl,Za9 es,false,?_,iteF (Zal ?_)⟩
  ·rw[if_pos rfl,Zhr,decide_eq_true en.nil];rfl
  walk_at "rd"
  have s45:=s5
  refine⟨pw,pe,kw,ws',ss,es,l,m,rfl,s5 _ _ h4,wl.same s5,sl,ok,lk',h5,en,fun H6 s6=>?_⟩
  show Zbp _ _ _ _
  refine Zal ?_
  walk_at "rd"
  have l40:=ok.l40
  refine⟨_,_,rfl,ZbV (by omega),ite2 (fun h=>absurd (of_decide_eq_true h) (by omega)) (fun _=>Zal ?_)⟩
  walk_at "rd"
  have s26:=s3.trans (s4.trans (s5.trans s6))
  refine⟨r,ws',l,m,rfl,s26 _ _ h2,ok,lk',fun H7 s7=>?_⟩
  show Zbp _ _ _ _
  refine Zal ?_
  walk_at "rd"
  have s27:=s26.trans s7
  exact q H7 ((s1.l.trans s2).trans s27.l) (tk2.same s27)
theorem Zco:FnScope ["_law_script","_law_way","_law_kinds_here","_law_text_here","_law_words","_law_kept","_law_found"] ["_law_script"] (Zah Zjw):=by walk_at "sc"
theorem ok_law (T:TL K mg base a tb):FnOk P w K mg base CX0 8 a.f_law a.d_law ["_law_script"] (spLaw K tb):=by
 refine T.f_law.ok Zco (fun vs H Q E h=>?_) (fun cdv A outer s H vs Q E hr h=>?_)
 ·obtain⟨_,_,rfl,_⟩:=h;rfl
 ·have hu64:=hr.units
  have hu1:=ZaN hr
  obtain⟨b,ns,rfl,hS,h63,tk,q⟩:=h
  refine⟨_,(Zac (Zam (i:=1) Zco.nd rfl (Or.inl rfl) (Zak (Zh6 T) (hr.mono (by decide)) rfl T.m_K7 T.f_K7.kp T.b_K7 .nil Zar (Zaa (pv 0) (Zaa Zaj Zae))))
   (Zai (Zac (Zam (i:=2) Zco.nd rfl (Or.inl rfl) (Zak (Znf T) (hr.mono (by decide)) rfl T.m_K1 T.f_K1.kp T.b_K1 .nil Zar (Zaa (pv 1) Zae)))
   (Zai (Zac (Zam (i:=3) Zco.nd rfl (Or.inl rfl) (Zak (Znb T) (hr.mono (by decide)) rfl T.m_K8 T.f_K8.kp T.b_K8 .nil Zar (Zaa (Zak (Zh6 T) (hr.mono (by decide)) rfl T.m_K7 T.f_K7.kp T.b_K7 .nil Zar (Zaa (pv 0) (Zaa Zaj Zae))) (Zaa (pv 1) (Zaa (pv 2) (Zaa Zaj Zae))))))
   (Zai (Zac (Zam (i:=4) Zco.nd rfl (Or.inl rfl) (Zak (Zk4 T) (hr.mono (by decide)) rfl T.m_KS T.f_KS.kp T.b_KS .nil Zar (Zaa (Zak (ZmY T) (hr.mono (by decide)) rfl T.m_KX T.f_KX.kp T.b_KX .nil Zar (Zaa (Zcb (Zaa (pv 3) Zae)) (Zaa (pv 2) Zae))) (Zaa (Zak (Zh6 T) (hr.mono (by decide)) rfl T.m_K7 T.f_K7.kp T.b_K7 .nil Zar (Zaa (pv 0) (Zaa Zaj Zae))) Zae))))
   (Zai (Zac (Zam (i:=5) Zco.nd rfl (Or.inl rfl) (Zbr (ZdN (K:=K) rfl) rfl T.z_list Zff (Zaa (pv 4) Zae)))
   (Zai (Zac (Zam (i:=6) Zco.nd rfl (Or.inl rfl) (Zak (Zk3 T) (hr.mono (by decide)) rfl T.m_KU T.f_KU.kp T.b_KU .nil Zar (Zaa (pv 4) (Zaa (pv 2) Zae))))
   (Zai (Zac (Zbj (PW.pt (Zd3 (Zcr (ZbN (Zan (Zbc (K:=K) rfl) rfl T.z_isinstance Za6 (Zaa (pv 6) (Zaa (Zds (v:=.ty "str") rfl T.z_str ZhI rfl) Zae))))) (Zd3 (Zaw (Zdt (K:=K) rfl hu64) (pv 6) (pv 3) (ZaH _)) (Zd2 (Zaw (Zdt (K:=K) rfl hu64) (pv 4) (pv 5) (ZaH _)))))) (Zag (Zay Zd7)) ZaB)
   (Zai (Zag (Zay (ZbH (Za8 (K:=K) rfl hu64) (Zak (Zk3 T) (hr.mono (by decide)) rfl T.m_KU T.f_KU.kp T.b_KU .nil Zar (Zaa (Zak (Zk4 T) (hr.mono (by decide)) rfl T.m_KS T.f_KS.kp T.b_KS .nil Zar (Zaa (pv 4) (Zaa (Zak (Zh6 T) (hr.mono (by decide)) rfl T.m_K7 T.f_K7.kp T.b_K7 .nil Zar (Zaa (pv 0) (Zaa Zaj Zae))) Zae))) (Zaa (pv 2) Zae))) (pv 3) (ZaH _)))))))))))))))))),?_⟩
  have sz:∀k:Nat,k≤1000→k≤sizeLine:=fun k h=>Nat.le_trans h (by rw[sizeLine_eq];decide)
  rw[←T.e_KQ]at tk
  walk_at "rd"
  refine⟨b,ns,0,rfl,hS,by decide,fun r0=>?_⟩
  show Zbp _ _ _ _
  refine Zal ?_
  walk_at "rd"
  refine⟨r0,rfl,fun m mk m1 m4=>?_⟩
  show Zbp _ _ _ _
  refine Zal ?_
  walk_at "rd"
  refine⟨b,ns,1,rfl,hS,by decide,fun r1=>⟨_,_,m,rfl,m1,m4,fun l ll lm=>?_⟩⟩
  have ok:StripOk l m:=⟨mk,m1,m4,ll,lm⟩
  show Zbp _ _ _ _
  refine Zal ?_
  walk_at "rd"
  refine⟨sz 1 (by decide),NewL.of fun p1 H1 s1 n1 l1=>⟨p1,l,m,rfl,l1,ok,fun p2 ws H2 s2 h2 lk=>⟨b,ns,2,rfl,(s1.trans s2).seq hS,by decide,fun r2=>⟨p2,ws,r2,rfl,h2,Nat.le_trans (lk.len ok) (by decide),fun p3 ws3 H3 s3 n3 h3 pm=>?_⟩⟩⟩⟩
  have lk3:ListOk l m ws3:=pm.trans lk
  have s03:=(s1.trans s2).trans s3
  show Zbp _ _ _ _
  refine Zal ?_
  walk_at "rd"
  refine⟨p3,ws3.map tx,rfl,.inl (.mk h3),fun p4 n4=>?_⟩
  have s4:Same H3 (upd H3 p4 (.lst (ws3.map tx))):=Zav n4
  have l4:upd H3 p4 (.lst (ws3.map tx)) p4=some (.lst (ws3.map tx)):=Zad
  generalize upd H3 p4 (.lst (ws3.map tx))=H4 at s4 l4
  have s04:=s03.trans s4
  refine Zal ?_
  walk_at "rd"
  refine⟨p3,ws3,l,m,rfl,s4 _ _ h3,ok,lk3,tk.same s04,fun H5 s5 tk5=>?_⟩
  show Zbp _ _ _ _
  refine Zal ?_
  walk_at "rd"
  have h35:=s5 _ _ (s4 _ _ h3) rfl
  have h45:=s5 _ _ l4 rfl
  have S5:=ZlV (s04.seq hS) s5
  refine⟨_,_,_,_,true,rfl,rfl,.ty (.pl (.str _)),ZfH,iteF (Znh ⟨false,rfl,iteF (Zlb (.mk h35) (.mk h45) ⟨false,rfl,iteF (Zal ?_)⟩)⟩)⟩
  walk_at "rd"
  refine⟨b,ns,3,rfl,S5,by decide,fun r3=>⟨p3,ws3,r3,rfl,h35,Nat.le_trans (lk3.len ok) (by decide),fun p6 ws6 H6 s6 n6 h6 pm6=>⟨p6,ws6,l,m,rfl,h6,ok,pm6.trans lk3,tk5.same s6,fun H7 s7 tk7=>Znp (q H7)⟩⟩⟩
end
end Pk63
namespace PySem.W.Fast
def tw10063558850006458054:=0
def tw10136637390667731544:=0
def tw10147239107349895756:=0
def tw10147861560345115725:=0
def tw10198454376069518890:=0
def tw10221113652381547068:=0
def tw10256376840117789794:=0
def tw10272766309844251097:=0
def tw1028867492242682513:=0
def tw10299218318891114473:=0
def tw10321114336295684836:=0
def tw1043119697390996764:=0
def tw10461015561251647054:=0
def tw10621447307253007569:=0
def tw10628511991943677365:=0
def tw1065000278128627280:=0
def tw10683607978105977126:=0
def tw1068820465152272497:=0
def tw10732999300426709304:=0
def tw10775294641097501033:=0
def tw10783461861086893666:=0
def tw10879845170415379498:=0
def tw11007593187434073514:=0
def tw11028687755257465882:=0
def tw11040693987001195354:=0
def tw11055359966324480191:=0
def tw11109835454181198487:=0
def tw11168680146572445974:=0
def tw11218722085057392787:=0
def tw11228642645428835547:=0
def tw11262968863267632267:=0
def tw11277793002871481260:=0
def tw11285475123046047465:=0
def tw11319677552976794722:=0
def tw11345984391894835972:=0
def tw11346198492814578210:=0
def tw11370071614854502039:=0
def tw11375147762147483147:=0
def tw1155414897943672245:=0
def tw11603109886635233222:=0
def tw11648999921388282759:=0
def tw11718978137729836180:=0
def tw11727611745498020845:=0
def tw11730552781348259284:=0
def tw11801877400873791424:=0
def tw11805956807323386806:=0
def tw11863449559878486099:=0
def tw11930170226590127156:=0
def tw11994791457866972184:=0
def tw12007313394681498800:=0
def tw12016800541305056575:=0
def tw12115177218731938889:=0
def tw12126689912002321112:=0
def tw12228403360286141180:=0
def tw12308688794505207117:=0
def tw12314067413685488048:=0
def tw12358391233224627905:=0
def tw12363316174516857513:=0
def tw12368716879373700877:=0
def tw1238130390821571878:=0
def tw12405554854595417712:=0
def tw12441930376476391100:=0
def tw12483871383616027642:=0
def tw12498439134204348720:=0
def tw12511469146901973744:=0
def tw12523337434709900322:=0
def tw12694856349010645382:=0
def tw12717191075342040875:=0
def tw1271902521611845414:=0
def tw12745814018819190775:=0
def tw12815435776811637248:=0
def tw12841023415117827571:=0
def tw12848675488512274302:=0
def tw12876118728378027108:=0
def tw12892616779139878515:=0
def tw12897551831473586301:=0
def tw12945946179280008598:=0
def tw12952973658117428660:=0
def tw13027620678706079913:=0
def tw13028342272781446091:=0
def tw13031808436418188711:=0
def tw13108556997153399345:=0
def tw13189399926623600262:=0
def tw13287880946653794940:=0
def tw13329403839382940929:=0
def tw13344657512499895338:=0
def tw13404037629504009525:=0
def tw13426405880391046555:=0
def tw13510173090807478191:=0
def tw13550138624228912616:=0
def tw13558966711075919526:=0
def tw13571674497154318157:=0
def tw1365137119131563870:=0
def tw13658234556621738712:=0
def tw13667228300949930375:=0
def tw13683323705191510039:=0
def tw13712168263962139468:=0
def tw13786629307164375750:=0
def tw13843291026158410473:=0
def tw13849540339055090439:=0
def tw13897501654209328949:=0
def tw14109343268301003288:=0
def tw14137082542230668845:=0
def tw14152692972398107095:=0
def tw14207855462232531734:=0
def tw14308727845997215637:=0
def tw14388990625808612092:=0
def tw14404761409937172592:=0
def tw14427631536297437133:=0
def tw14437546763636699248:=0
def tw14453131835596230279:=0
def tw14464105597069218018:=0
def tw14473668609371500173:=0
def tw14561492549200947999:=0
def tw14570413737227055752:=0
def tw1457236354137445180:=0
def tw14634061339681818966:=0
def tw14640410725625777501:=0
def tw14698321233435783977:=0
def tw14715910272377594005:=0
def tw14727280867146797627:=0
def tw14758321547794953133:=0
def tw14802690078492847787:=0
def tw14883347446564716755:=0
def tw14900502440504180465:=0
def tw14949573158703019517:=0
def tw14971366142674526474:=0
def tw14978597022020852495:=0
def tw15091270996744273495:=0
def tw15136226720229264528:=0
def tw15151231283687126781:=0
def tw15174850475604107474:=0
def tw15236271239991161188:=0
def tw15288492318318820520:=0
def tw15308809689667528983:=0
def tw15469732568180716271:=0
def tw15590962496957203478:=0
def tw15610682401323353835:=0
def tw1561498601116730479:=0
def tw15705804612238782804:=0
def tw15708900821479597349:=0
def tw15717407654869911852:=0
def tw15760824687150520105:=0
def tw15781542170565493304:=0
def tw15788658209789254466:=0
def tw15790608367847521810:=0
def tw15846317549092188777:=0
def tw1586544711866947802:=0
def tw15906548637208842835:=0
def tw15934587915494589966:=0
def tw15962189782463814838:=0
def tw15968578923129576421:=0
def tw15985823762617448270:=0
def tw16020848457752216309:=0
def tw16033419422551283098:=0
def tw16164888124661186909:=0
def tw16178918731411491339:=0
def tw16190189571552681014:=0
def tw16256079974426605368:=0
def tw16333751368562845891:=0
def tw16358899642759376839:=0
def tw16361474090984957213:=0
def tw16467653240027370248:=0
def tw16637172115136038167:=0
def tw16682248705422756681:=0
def tw16686292386290542467:=0
def tw16705225639039960732:=0
def tw16738702902808339529:=0
def tw16750913664443777246:=0
def tw16778791146209216023:=0
def tw16843351587073155344:=0
def tw16874429474693649547:=0
def tw16926445643353770795:=0
def tw17100873030575857577:=0
def tw1712395573338327646:=0
def tw17126185116420092932:=0
def tw17129536829218151370:=0
def tw17170190125536264107:=0
def tw17278959642085100622:=0
def tw1729272476704271232:=0
def tw17294422263953821648:=0
def tw17371794770527457861:=0
def tw17391631862565280340:=0
def tw17403537857833114616:=0
def tw17484386349910493470:=0
def tw17503555099559018322:=0
def tw17528238737700182239:=0
def tw17665121563533137322:=0
def tw17666381602389411510:=0
def tw17746018239751353700:=0
def tw17759180544951015598:=0
def tw17804770741538889312:=0
def tw17820969834101070830:=0
def tw1785242660595510884:=0
def tw17857231969696382681:=0
def tw17883887907812065402:=0
def tw1791899353428576152:=0
def tw17950500040615359118:=0
def tw1796313812502723978:=0
def tw17980020849446099175:=0
def tw18003774065993052863:=0
def tw18013667554081273866:=0
def tw1803437056827590570:=0
def tw18052083577665146381:=0
def tw18082021546284428462:=0
def tw18103039096081791116:=0
def tw18138952644454111607:=0
def tw1816253029138299492:=0
def tw18200533734230674635:=0
def tw18256986890658375574:=0
def tw18339864108311958901:=0
def tw18352865160366677594:=0
def tw18379256524895843842:=0
def tw18404207584453761369:=0
def tw18408309782647465257:=0
def tw18413822958604137561:=0
def tw18430432588624941060:=0
def tw1863336005373544677:=0
def tw1894889100927609053:=0
def tw1979808877285172986:=0
def tw2003857257826269545:=0
def tw2028123827700078194:=0
def tw2062290686782599051:=0
def tw2076455482535239731:=0
def tw2122555600436005917:=0
def tw2234326509615748934:=0
def tw226176961715505463:=0
def tw228609760446514817:=0
def tw2345433064501020178:=0
def tw2366603410940723289:=0
def tw2367629706422559696:=0
def tw2390673249627382758:=0
def tw2435171768082689649:=0
def tw2446647458649061016:=0
def tw2473914613559077357:=0
def tw2533165223376481159:=0
def tw2539095286517743298:=0
def tw266372456695435214:=0
def tw2679278499050751459:=0
def tw2728556545458715421:=0
def tw2938231027986961667:=0
def tw3112229070323609925:=0
def tw3114242777044299286:=0
def tw3125931276617641626:=0
def tw313994622203194474:=0
def tw316982581546667173:=0
def tw3191907623177940279:=0
def tw3229562042387548155:=0
def tw3240182452777826432:=0
def tw3276968140300846292:=0
def tw3391896209786560197:=0
def tw343493060506520392:=0
def tw3442810445139232542:=0
def tw3497131189696106185:=0
def tw3503965401034485849:=0
def tw3574738216583477131:=0
def tw3575863549963022217:=0
def tw3583784427848638460:=0
def tw3620677854077846102:=0
def tw364253175670021116:=0
def tw3660640316545790131:=0
def tw3671135559407642070:=0
def tw3705933921533048757:=0
def tw371570082092549187:=0
def tw3802642809387570275:=0
def tw386726127996278685:=0
def tw3896720181215584404:=0
def tw3917141327748726440:=0
def tw3967367095894960919:=0
def tw409418498018761837:=0
def tw4171244796186972461:=0
def tw4187493978949677362:=0
def tw4320015779553584631:=0
def tw4357773263847811426:=0
def tw4389690402166261830:=0
def tw4441709129035286608:=0
def tw4487227859945962028:=0
def tw4521866144883815788:=0
def tw4592687064355874625:=0
def tw4659037790249175725:=0
def tw4763523328837445483:=0
def tw4785398911847521720:=0
def tw4791647590304216343:=0
def tw4794381559356590044:=0
def tw4848960710298593918:=0
def tw4903834448357398075:=0
def tw4904791969743346852:=0
def tw4942893880000894450:=0
def tw4981628710229165414:=0
def tw5000527502549016915:=0
def tw5001391002783374658:=0
def tw5019952803934159592:=0
def tw5053417157393933559:=0
def tw5084274312272264550:=0
def tw5124492846191931958:=0
def tw5141452110512844241:=0
def tw5195036171246001915:=0
def tw5221237191253815960:=0
def tw5276580576033688534:=0
def tw529718238123615090:=0
def tw5306792589877282761:=0
def tw5399080477304477131:=0
def tw5405179379014897967:=0
def tw5418042171883240692:=0
def tw5567298953018222804:=0
def tw5588644473537618326:=0
def tw5599900660940476687:=0
def tw5611014850112646534:=0
def tw561495192186360138:=0
def tw563422139673190258:=0
def tw5679334919914039347:=0
def tw5706839771825110184:=0
def tw5835022177752355370:=0
def tw5851620125109331457:=0
def tw5880386323647464182:=0
def tw5970658743876365973:=0
def tw6032013321313504846:=0
def tw6046904105257124314:=0
def tw6067261602051079514:=0
def tw6074287780618201051:=0
def tw6113927151332155476:=0
def tw6219168583722819387:=0
def tw6246213682922000797:=0
def tw6314433342579407011:=0
def tw6336509710219190787:=0
def tw6337236190776633877:=0
def tw6361535425602772213:=0
def tw6425156354181869141:=0
def tw6443444197915209628:=0
def tw6465834541649473339:=0
def tw6556662856882855825:=0
def tw657403607697794595:=0
def tw6745641020054167153:=0
def tw6783024167311784865:=0
def tw679414444724650472:=0
def tw6807425485664455261:=0
def tw6863191628681200334:=0
def tw6948587896401461521:=0
def tw7071853854885079730:=0
def tw7131153636636018234:=0
def tw7171554519920035631:=0
def tw7175635767459563870:=0
def tw7179992145028534488:=0
def tw7185318899305127243:=0
def tw7199125650454882820:=0
def tw7210448171037868193:=0
def tw7227439360153108200:=0
def tw7332454024586687877:=0
def tw738542533535182429:=0
def tw7412794414907042451:=0
def tw7416508252134054563:=0
def tw7426970188340552818:=0
def tw751380561785474395:=0
def tw7583067540378078710:=0
def tw7599416975120390337:=0
def tw7661010243972222941:=0
def tw7670377898738717419:=0
def tw7787322754142202745:=0
def tw780289058080681524:=0
def tw7840544417125364773:=0
def tw7846294793479163947:=0
def tw7864087739396893149:=0
def tw7942444985181622518:=0
def tw7963689931690027267:=0
def tw8043360532175474978:=0
def tw807165788573343539:=0
def tw8111549221137796763:=0
def tw8127827398487522207:=0
def tw8188982523419314570:=0
def tw821215920403558912:=0
def tw822356353756056696:=0
def tw8237025230695718208:=0
def tw8310279578972074443:=0
def tw8415390287224049501:=0
def tw843895641241525027:=0
def tw8442227975770901515:=0
def tw8477986110767035860:=0
def tw8508097494955294251:=0
def tw8554916961683931420:=0
def tw8557487392896088408:=0
def tw8597509809068279902:=0
def tw8644558584275335683:=0
def tw8689168712729981881:=0
def tw8693233416391716474:=0
def tw8721443119373675438:=0
def tw8760085951365783244:=0
def tw8807145476502469818:=0
def tw8835563564784690923:=0
def tw8849074712750354091:=0
def tw885628798533471404:=0
def tw8894166931258893793:=0
def tw8927477372227212368:=0
def tw8997391312395892528:=0
def tw9014959193837925469:=0
def tw9051890013666146103:=0
def tw9052253411450006947:=0
def tw9053993136708116148:=0
def tw9085412346651505426:=0
def tw911895699217763266:=0
def tw9139290736175976538:=0
def tw9139729449583184663:=0
def tw9278918033993677412:=0
def tw9309355853427906107:=0
def tw9360014301481495602:=0
def tw9393888839984329410:=0
def tw9400777496401129244:=0
def tw9462970281010214778:=0
def tw947890299521182999:=0
def tw9482761981565486743:=0
def tw9513106795810178589:=0
def tw9516170516662080608:=0
def tw9551661422425390747:=0
def tw9607598558392088998:=0
def tw9613257185838939893:=0
def tw9624664844695299243:=0
def tw9631302928102798806:=0
def tw9652654482263199183:=0
def tw9666205021435850488:=0
def tw9675876253431299002:=0
def tw9690346408277597760:=0
def tw9865078686283282450:=0
def tw9876688127107459597:=0
def tw989616747902352082:=0
def tw9899188924561366757:=0
def tw9917088704743837998:=0
def tw9966719106634911634:=0
def tw9969897785752508571:=0
end PySem.W.Fast
open PySem PySem.W PyProof.Rows
set_option maxRecDepth 100000 in
set_option maxHeartbeats 0 in
theorem PySem.Challenge.cw_lackword_k63_the_strip_of_its_list_holds : PySem.Challenge.rw_lackword_k63_the_strip_of_its_list.Holds := by
 w_on;o_law;k_head;(case hw=>w_witness2)
 k_fill
 refine L2.walk_ofT (l:=PySem.Challenge.rw_lackword_k63_the_strip_of_its_list) (n:=63) (k:=8) (x:="_law_script") (CX:=L2.CX0) (sp:=Pk63.spLaw) ["in_order"] rfl (by decide) rfl ⟨rfl,by decide,by decide⟩ (fun w h Y=>PySem.W.km_in_of Y) (fun _=>by kernel_rfl) (by kernel_rfl) ?F ?S ?C
 case F=>
  intro w mg fa h tb KX G hmg hT
  have T:∃t,Pk63.Txt (L2.KOf KX) mg t∧t.t_KQ=(tb "in_order").2∧t.k_KQ=(tb "in_order").1:=by
   dsimp only[L2.KOf]
   apply Pk63.txt_mk (t_KQ:=(tb "in_order").2) (k_KQ:=(tb "in_order").1) KX G
   iterate 29 k_is
   iterate 6 (apply L2.mg_mk;iterate 4 k_is)
   iterate 27 (apply L2.dg_mk;iterate 4 k_is)
   iterate 16 k_is
  obtain⟨t,T,et_KQ,ek_KQ⟩:=T
  have e0:=hmg.symm.trans T.m_law
  cases e0
  have cd_KQ:t.d_KQ.code=.ref t.k_KQ:=by
   obtain⟨o,e1,e2⟩:=T.f_KQ.at KX
   rw[ek_KQ]
   exact(hT "in_order" (by simp)).codeEq T.m_KQ e1 e2
  refine' ⟨_,?b,fun base kb nb hL=>Pk63.ok_law (tb:=tb) { T with L_in_order:=by rw[et_KQ,ek_KQ];exact hL "in_order" (by simp),cd_KQ:=cd_KQ,e_KQ:=et_KQ }⟩
  exact T.bl
 case S=>exact fun K tb H a ns hl hP hS=>⟨a,ns,rfl,hS,hl,L2.tbl_new (hP "in_order" (by simp)),fun _=>rfl⟩
 case C=>exact fun _ _ _ _ z=>z
#print axioms PySem.Challenge.cw_lackword_k63_the_strip_of_its_list_holds
