import PyProof.Rows.All
import Wide.All
import OpenK.AllK
import Wide.FinOn
import Lean
import PyProof.EqAt
import PyProof.EqKinds
import PyProof.TupleCall
import PyProof.SetRoads
import PyProof.Rows.SetFrom
import PyProof.StrWalks
import PyProof.FactsAll.set
import PyProof.FactsAll.subtypes_3
import PyProof.CollectWalk
import PyProof.CollectStr
import PyProof.StationsW
import PyProof.RulesAs
import KE.KTryMore
import PyProof.NsDelKeeps
import PyProof.ListStr
import PyProof.TupleOfStr
import PyProof.ConsumeS
import KE.KEqDict
import PyProof.DictWalks
import PyProof.DictUpdate
import KE.KLam
import PySem.Challenge.RW_lackword_k73_missing_words_of_rings
set_option Elab.async false
set_option linter.all false
set_option maxRecDepth 100000
namespace L2
open PySem PySem.Spec PyProof.Rows
abbrev Key:=Sum Int Str
def keyIs:Key→Value→Bool
  | .inl k,v=>Value.isInt k v
  | .inr x,v=>Value.isStrOf x v
def keyH (w:World):Key→Int
  | .inl k=>hashInt k
  | .inr x=>hashStr w x
theorem keyIs_shape:∀ {k:Key} {v:Value},keyIs k v=true→(∃ i t,k=Sum.inl i∧v=Value.int i t)∨(∃ x t,k=Sum.inr x∧v=Value.str x t)
  | .inl i,v,h=>by
    obtain ⟨t,e⟩:=Value.isInt_shape (k:=i) (v:=v) h
    exact .inl ⟨i,t,rfl,e⟩
  | .inr x,v,h=>by
    obtain ⟨t,e⟩:=Value.isStrOf_shape (x:=x) (v:=v) h
    exact .inr ⟨x,t,rfl,e⟩
theorem keyIs_int (i:Int) (t:Tok):keyIs (.inl i) (.int i t)=true:=by simp [keyIs,Value.isInt]
theorem keyIs_str (x:Str) (t:Tok):keyIs (.inr x) (.str x t)=true:=by simp [keyIs,Value.isStrOf]
theorem key_ll (a b:Int):decide ((Sum.inl a:Key)=Sum.inl b)=(a == b):=by
  by_cases e:a=b
  · subst e;simp
  · have h:¬ (Sum.inl a:Key)=Sum.inl b:=fun q=>e (Sum.inl.inj q)
    rw[decide_eq_false h]
    exact (beq_eq_false_iff_ne.mpr e).symm
theorem key_rr (a b:Str):decide ((Sum.inr a:Key)=Sum.inr b)=decide (a=b):=by
  by_cases e:a=b
  · subst e;simp
  · have h:¬ (Sum.inr a:Key)=Sum.inr b:=fun q=>e (Sum.inr.inj q)
    rw[decide_eq_false h,decide_eq_false e]
theorem key_lr (a:Int) (b:Str):decide ((Sum.inl a:Key)=Sum.inr b)=false:=decide_eq_false (fun q=>nomatch q)
theorem key_rl (a:Str) (b:Int):decide ((Sum.inr a:Key)=Sum.inl b)=false:=decide_eq_false (fun q=>nomatch q)
def mixKind (prog:Program) (w:World):PySem.KeyKind prog w Key where
  is:=keyIs
  hash:=keyH w
  inj:=fun v a b ha hb=>by
    rcases keyIs_shape ha with ⟨i,t,rfl,rfl⟩ | ⟨x,t,rfl,rfl⟩
    · rcases keyIs_shape hb with ⟨j,u,rfl,e⟩ | ⟨y,u,rfl,e⟩
      · injection e with e1 _;rw[e1]
      · exact nomatch e
    · rcases keyIs_shape hb with ⟨j,u,rfl,e⟩ | ⟨y,u,rfl,e⟩
      · exact nomatch e
      · injection e with e1 _;rw[e1]
  byValue:=fun k v h=>by
    rcases keyIs_shape h with ⟨i,t,rfl,rfl⟩ | ⟨x,t,rfl,rfl⟩ <;> rfl
  pyHash:=fun hv h=>by
    rcases keyIs_shape hv with ⟨i,t,rfl,rfl⟩ | ⟨x,t,rfl,rfl⟩
    · exact wpAny_pyHash_int h
    · exact wpAny_pyHash_str h
  eqBool:=fun hu hv h=>by
    rcases keyIs_shape hu with ⟨i,t,rfl,rfl⟩ | ⟨x,t,rfl,rfl⟩
    · rcases keyIs_shape hv with ⟨j,u,rfl,rfl⟩ | ⟨y,u,rfl,rfl⟩
      · rw[key_ll] at h;exact wpAny_eqBool_int h
      · rw[key_lr] at h;exact SeqAt.EqAt.int_str i t y u _ _ _ _ h
    · rcases keyIs_shape hv with ⟨j,u,rfl,rfl⟩ | ⟨y,u,rfl,rfl⟩
      · rw[key_rl] at h;exact SeqAt.EqAt.str_int x t j u _ _ _ _ h
      · rw[key_rr] at h;exact wpAny_eqBool_str h
  «strs»:=fun k x t v h=>by
    rcases keyIs_shape h with ⟨i,u,rfl,e⟩ | ⟨y,u,rfl,e⟩
    · exact nomatch e
    · injection e with e1 _
      subst e1
      cases v <;> rfl
theorem mixKind_int (prog:Program) (w:World) (i:Int) (t:Tok):(mixKind prog w).is (.inl i) (.int i t)=true:=keyIs_int i t
theorem mixKind_str (prog:Program) (w:World) (x:Str) (t:Tok):(mixKind prog w).is (.inr x) (.str x t)=true:=keyIs_str x t
end L2
namespace L2
open PySem PySem.Spec PyProof.Rows
inductive V where
  | non | bl (b:Bool) | int (i:Int) | str (x:Str) | byt (b:Array UInt8) | flt (b:UInt64) | ref (a:Addr) | ty (n:String)
  deriving DecidableEq
def RelV:V→Value→Prop
  | .non,u=>u=Value.none
  | .bl b,u=>u=Value.bool b
  | .int i,u=>∃ t,u=Value.int i t
  | .str x,u=>∃ t,u=Value.str x t
  | .byt b,u=>∃ t,u=Value.bytes b t
  | .flt b,u=>∃ t,u=Value.float b t
  | .ref a,u=>u=Value.ref a
  | .ty n,u=>u=Value.type n
abbrev Vals:List V→List Value→Prop:=Paired RelV
theorem Vals.length {xs:List V} {us:List Value} (r:Vals xs us):xs.length=us.length:=Paired.length r
theorem Vals.get:∀ {xs:List V} {us:List Value} {i:Nat} {x:V},Vals xs us→xs[i]?=some x→∃ u,us[i]?=some u∧RelV x u
  | _,_,_,_,.nil,e=>by simp at e
  | _,_,0,_,.cons r _,e=>by simp at e;subst e;exact ⟨_,rfl,r⟩
  | _,_,i + 1,x,.cons _ t,e=>by
    obtain ⟨u,h1,h2⟩:=Vals.get (i:=i) (x:=x) t (by simpa using e)
    exact ⟨u,by simpa using h1,h2⟩
theorem Vals.set {x:V} {u:Value} (r:RelV x u):∀ {xs:List V} {us:List Value} (i:Nat),Vals xs us→Vals (xs.set i x) (us.set i u)
  | _,_,_,.nil=>.nil
  | _,_,0,.cons _ t=>.cons r t
  | _,_,i + 1,.cons q t=>.cons q (Vals.set r i t)
theorem Vals.append:∀ {xs ys:List V} {us ws:List Value},Vals xs us→Vals ys ws→Vals (xs++ys) (us++ws)
  | _,_,_,_,.nil,s=>s
  | _,_,_,_,.cons r t,s=>.cons r (Vals.append t s)
theorem Vals.take:∀ {xs:List V} {us:List Value} (n:Nat),Vals xs us→Vals (xs.take n) (us.take n)
  | _,_,0,_=>.nil
  | _,_,_ + 1,.nil=>.nil
  | _,_,n + 1,.cons r t=>.cons r (Vals.take n t)
theorem Vals.drop:∀ {xs:List V} {us:List Value} (n:Nat),Vals xs us→Vals (xs.drop n) (us.drop n)
  | _,_,0,r=>r
  | _,_,_ + 1,.nil=>.nil
  | _,_,n + 1,.cons _ t=>Vals.drop n t
theorem Vals.none_of:∀ {xs:List V} {us:List Value} {i:Nat},Vals xs us→xs[i]?=none→us[i]?=none:=fun {xs us i} r e=>by
  have h1:=r.length
  have h2:xs.length≤i:=List.getElem?_eq_none_iff.mp e
  exact List.getElem?_eq_none_iff.mpr (by omega)
def RelO:Option V→Option Value→Prop
  | some v,some u=>RelV v u
  | none,none=>True
  | _,_=>False
def KV {κ:Type}:List (κ×V)→List (κ×Value)→Prop:=Paired fun (p:κ×V) (q:κ×Value)=>p.1=q.1∧RelV p.2 q.2
def kV:Key→V
  | .inl i=>.int i
  | .inr x=>.str x
inductive HO where
  | lst (xs:List V)
  | tup (xs:List V)
  | dK (kvs:List (Key×V)) | dT (kvs:List (List Key×V))
  | set (S:Int→Bool) (n:Nat)
  | ins (C dx:Addr) (fs:List (Str×V))
  | own (x:Addr)
  | xd (fs:List (Str×V))
  | met (f x:Addr)
  | rng (lo hi:Int)
  | frz (o:Obj) (u:HO)
  | tbl (ps:Array Value)
  | ext (φ:Heap→Prop)
abbrev Hp:=Addr→Option HO
def upd (H:Hp) (a:Addr) (o:HO):Hp:=fun b=>if b=a then some o else H b
theorem upd_same {H:Hp} {a:Addr} {o:HO}:upd H a o a=some o:=by unfold upd;rw[if_pos rfl]
theorem upd_ne {H:Hp} {a b:Addr} {o:HO} (h:b≠a):upd H a o b=H b:=by unfold upd;rw[if_neg h]
theorem ne_of_none {H:Hp} {a b:Addr} {o:HO} (h:H a=some o) (h':H b=none):a≠b:=by
  intro e;subst e;rw[h] at h';cases h'
section
variable (P:Program) (w:World)
def ObjOk (H:Hp) (h:Heap) (a:Addr):HO→Prop
  | .lst xs=>xs.length≤sizeLine∧∃ (its:List Value) (n:Nat),Vals xs its∧h.get? a=some { cls:=.type "list",data:=.seq its.toArray n }
  | .tup xs=>xs.length≤sizeLine∧∃ its:List Value,Vals xs its∧IsTup h a its.toArray
  | .dK kvs=>kvs.length≤sizeLine∧(a == sysModules)=false∧∃ vs,KV kvs vs∧h.DictOf (mixKind P w) a vs
  | .dT kvs=>kvs.length≤sizeLine∧(a == sysModules)=false∧∃ xs:List (List Key×Addr×Value),
      Paired (fun (p:List Key×V) (q:List Key×Addr×Value)=>p.1=q.1∧H q.2.1=some (.tup (p.1.map kV))∧RelV p.2 q.2.2) kvs xs ∧
      ∃ o es ep,h.get? a=some o∧o.ExactDict∧o.data=.dict es ep∧es.toList=xs.map (entryOfKey (tupleKind (mixKind P w)))∧(xs.map (·.1)).Nodup
  | .set S n=>h.SetOf (intKind P w) a S n
  | .ins C dx fs=>H dx=some (.own a)∧fs.length≤1000∧dx≠a∧h.get? a=some (PySem.W.instObj C dx) ∧
      ∃ mA,h.Ns1 dx mA∧(∀ f,RelO (fs.lookup f) (mA f))∧PySem.Within mA (fs.map (·.1))
  | .own _=>∃ o,h.get? a=some o
  | .xd fs=>∃ mA,h.Ns1 a mA∧∀ f,RelO (fs.lookup f) (mA f)
  | .rng lo hi=>∃ t u v,h.get? a=some { cls:=.type "range",data:=.fields #[.int lo t,.int hi u,.int 1 v] }
  | .frz o u=>h.get? a=some o∧ObjOk H h a u
  | .tbl ps=>h.get? a=some { cls:=.none,data:=.fields ps }
  | .met f x=>h.get? a=some (PySem.W.methodObj (.ref f) (.ref x))
  | .ext φ=>φ h∧(∃ o,h.get? a=some o)∧∀ h1 h2:Heap,φ h1→(∀ o,h1.get? a=some o→h2.get? a=some o)→φ h2
def HOk (H:Hp) (h:Heap):Prop:=∀ a o,H a=some o→ObjOk P w H h a o
end
section
variable {P:Program} {w:World} {H H':Hp} {h h':Heap} {a:Addr} {o:HO}
theorem ObjOk.lt (x:ObjOk P w H h a o):a < h.objs.size:=by
  cases o with
  | lst xs=>obtain ⟨_,_,_,_,e⟩:=x;exact Heap.lt_size e
  | tup xs=>obtain ⟨_,_,_,p⟩:=x;exact p.lt
  | dK kvs=>obtain ⟨_,_,_,_,o,_,_,e,_⟩:=x;exact Heap.lt_size e
  | dT kvs=>obtain ⟨_,_,_,_,o,_,_,e,_⟩:=x;exact Heap.lt_size e
  | set S n=>obtain ⟨o,_,_,_,e,_⟩:=x;exact Heap.lt_size e
  | ins C dx fs=>obtain ⟨_,_,_,e,_⟩:=x;exact Heap.lt_size e
  | own y=>obtain ⟨_,e⟩:=x;exact Heap.lt_size e
  | xd fs=>obtain ⟨_,⟨_,_,_,e,_⟩,_⟩:=x;exact Heap.lt_size e
  | rng lo hi=>obtain ⟨_,_,_,e⟩:=x;exact Heap.lt_size e
  | frz ob u=>obtain ⟨e,_⟩:=x;exact Heap.lt_size e
  | tbl ps=>exact Heap.lt_size (show h.get? a=some _ from x)
  | met f y=>exact Heap.lt_size (show h.get? a=some _ from x)
  | ext φ=>obtain ⟨_,⟨_,e⟩,_⟩:=x;exact Heap.lt_size e
theorem Paired.mapP {α β:Type} {F G:α→β→Prop}:∀ {l₁:List α} {l₂:List β},Paired F l₁ l₂→(∀ a b,F a b→G a b)→Paired G l₁ l₂
  | _,_,.nil,_=>.nil
  | _,_,.cons r t,f=>.cons (f _ _ r) (Paired.mapP t f)
theorem ObjOk.stay (x:ObjOk P w H h a o) (k:∀ b u,(b=a∨H b=some (.own a))→h.get? b=some u→h'.get? b=some u)
    (ho:∀ b,H b=some (.own a)→H' b=some (.own a)) (ht:∀ b xs,H b=some (.tup xs)→H' b=some (.tup xs)):ObjOk P w H' h' a o:=by
  induction o with
  | lst xs=>obtain ⟨z,its,n,r,e⟩:=x;exact ⟨z,its,n,r,k _ _ (.inl rfl) e⟩
  | tup xs=>obtain ⟨z,its,r,ob,e,c⟩:=x;exact ⟨z,its,r,ob,k _ _ (.inl rfl) e,c⟩
  | dK kvs=>obtain ⟨z,y,vs,r,ob,es,ep,e,c⟩:=x;exact ⟨z,y,vs,r,ob,es,ep,k _ _ (.inl rfl) e,c⟩
  | dT kvs=>
    obtain ⟨z,y,xs,r,ob,es,ep,e,c⟩:=x
    exact ⟨z,y,xs,Paired.mapP r fun p q z=>⟨z.1,ht _ _ z.2.1,z.2.2⟩,ob,es,ep,k _ _ (.inl rfl) e,c⟩
  | set S n=>obtain ⟨ob,es,ep,t,e,c⟩:=x;exact ⟨ob,es,ep,t,k _ _ (.inl rfl) e,c⟩
  | ins C dx fs=>
    obtain ⟨d,z,ne,e,mA,⟨od,es,ep,e2,c⟩,r⟩:=x
    exact ⟨ho _ d,z,ne,k _ _ (.inl rfl) e,mA,⟨od,es,ep,k _ _ (.inr d) e2,c⟩,r⟩
  | own y=>obtain ⟨ob,e⟩:=x;exact ⟨ob,k _ _ (.inl rfl) e⟩
  | xd fs=>obtain ⟨mA,⟨od,es,ep,e,c⟩,r⟩:=x;exact ⟨mA,⟨od,es,ep,k _ _ (.inl rfl) e,c⟩,r⟩
  | rng lo hi=>obtain ⟨t,u,v,e⟩:=x;exact ⟨t,u,v,k _ _ (.inl rfl) e⟩
  | frz ob u ih=>obtain ⟨e,q⟩:=x;exact ⟨k _ _ (.inl rfl) e,ih q⟩
  | tbl ps=>
    have e:h.get? a=some { cls:=.none,data:=.fields ps }:=x
    show h'.get? a=some { cls:=.none,data:=.fields ps }
    exact k a _ (.inl rfl) e
  | met f y=>
    have e:h.get? a=some (PySem.W.methodObj (.ref f) (.ref y)):=x
    show h'.get? a=some (PySem.W.methodObj (.ref f) (.ref y))
    exact k a _ (.inl rfl) e
  | ext φ=>obtain ⟨p,⟨o,e⟩,st⟩:=x;exact ⟨st _ _ p fun o q=>k _ _ (.inl rfl) q,⟨o,k _ _ (.inl rfl) e⟩,st⟩
theorem HOk.lt (x:HOk P w H h) (e:H a=some o):a < h.objs.size:=(x a o e).lt
theorem HOk.fresh (x:HOk P w H h) (e:h.objs.size≤a):H a=none:=by
  cases q:H a with
  | none=>rfl
  | some u=>exact absurd (Nat.lt_of_lt_of_le (x.lt q) e) (Nat.lt_irrefl _)
theorem HOk.kept (x:HOk P w H h) (k:∀ b u,h.get? b=some u→h'.get? b=some u):HOk P w H h':=fun a o e=>
  (x a o e).stay (fun b u _ q=>k b u q) (fun _ q=>q) fun _ _ q=>q
theorem HOk.laid (x:HOk P w H h) (k:∀ b u,h.get? b=some u→h'.get? b=some u) (hp:h.objs.size≤a) (new:ObjOk P w (upd H a o) h' a o):HOk P w (upd H a o) h':=fun b u e=>by
  have hn:=x.fresh hp
  by_cases hb:b=a
  · subst hb;rw[upd_same] at e;cases e;exact new
  · rw[upd_ne hb] at e
    exact (x b u e).stay (fun c v _ q=>k c v q) (fun c q=>by rw[upd_ne (ne_of_none q hn)];exact q) fun c xs q=>by rw[upd_ne (ne_of_none q hn)];exact q
end
def Rd (H:Hp) (a:Addr) (u:HO):Prop:=H a=some u∨∃ o,H a=some (.frz o u)
theorem Rd.of {H:Hp} {a:Addr} {u:HO} (h:H a=some u):Rd H a u:=.inl h
theorem Rd.ok {P:Program} {w:World} {H:Hp} {h:Heap} {a:Addr} {u:HO} (r:Rd H a u) (x:HOk P w H h):ObjOk P w H h a u:=by
  rcases r with r | ⟨o,r⟩
  · exact x a u r
  · obtain ⟨_,q⟩:=x a _ r
    exact q
def Mut:Option HO→Prop
  | some (.lst _)=>True
  | some (.dK _)=>True
  | some (.dT _)=>True
  | some (.set _ _)=>True
  | some (.ins _ _ _)=>True
  | some (.ext _)=>True
  | _=>False
section
variable {P:Program} {w:World} {H:Hp} {h h':Heap} {x e:Addr} {o':HO}
theorem HOk.write (ok:HOk P w H h) (mu:Mut (H x)) (he:e=x∨H e=some (.own x)) (k:∀ b u,b≠e→h.get? b=some u→h'.get? b=some u) (heo:∃ u,h'.get? e=some u)
    (new:ObjOk P w (upd H x o') h' x o'):HOk P w (upd H x o') h':=fun b u q=>by
  have nown:∀ c y,H c=some (.own y)→c≠x:=fun c y r z=>by subst z;rw[r] at mu;exact mu
  have ntup:∀ c xs,H c=some (.tup xs)→c≠x:=fun c xs r z=>by subst z;rw[r] at mu;exact mu
  by_cases hb:b=x
  · subst hb;rw[upd_same] at q;cases q;exact new
  · rw[upd_ne hb] at q
    by_cases hbe:b=e
    · have q':H b=some (.own x):=by
        rcases he with z | z
        · exact absurd (hbe.trans z) hb
        · rw[hbe];exact z
      rw[q] at q';cases q'
      obtain ⟨v,hv⟩:=heo
      exact ⟨v,by rw[hbe];exact hv⟩
    · refine (ok b u q).stay (fun c v hc r=>k c v ?_ r) (fun c r=>by rw[upd_ne (nown c b r)];exact r) fun c xs r=>by rw[upd_ne (ntup c xs r)];exact r
      rcases hc with rfl | hc
      · exact hbe
      · rintro rfl
        rcases he with z | z
        · exact nown c b hc z
        · rw[hc] at z;cases z;exact hb rfl
end
structure Un (fs ex:List Addr) (H H':Hp) (h h':Heap):Prop where
  keep:∀ b o,h.get? b=some o→H b=none→b∉fs→b∉ex→h'.get? b=some o
  slot:∀ b o,h.get? b=some o→H b=none→b∈fs→b∉ex→∃ sl,h'.get? b=some { o with slots:=sl }
  free:∀ b o,h.get? b=some o→H b=none→b∉ex→H' b=none
  there:∀ b o,h.get? b=some o→b∉ex→∃ o',h'.get? b=some o'
  tups:∀ b xs,H b=some (.tup xs)→H' b=some (.tup xs)
  frzs:∀ b o u,H b=some (.frz o u)→H' b=some (.frz o u)
  tbls:∀ b ps,H b=some (.tbl ps)→∃ more,H' b=some (.tbl (ps++more))
section
variable {fs fs' ex ex':List Addr} {H H1 H2:Hp} {h h1 h2 h':Heap} {a x e:Addr} {o:HO}
theorem Un.any (u:Un fs ex H H1 h h1) {b:Addr} {ob:Obj} (q:h.get? b=some ob) (n:H b=none) (hx:b∉ex):∃ sl,h1.get? b=some { ob with slots:=sl }:=by
  by_cases hb:b∈fs
  · exact u.slot b ob q n hb hx
  · exact ⟨ob.slots,u.keep b ob q n hb hx⟩
theorem Un.trans (a:Un fs ex H H1 h h1) (b:Un fs ex H1 H2 h1 h2):Un fs ex H H2 h h2 where
  keep:=fun c ob q n hc hx=>b.keep c ob (a.keep c ob q n hc hx) (a.free c ob q n hx) hc hx
  slot:=fun c ob q n hc hx=>by
    obtain ⟨sl,e1⟩:=a.slot c ob q n hc hx
    obtain ⟨sl',e2⟩:=b.slot c _ e1 (a.free c ob q n hx) hc hx
    exact ⟨sl',e2⟩
  free:=fun c ob q n hx=>by
    obtain ⟨o',e1⟩:=a.there c ob q hx
    exact b.free c o' e1 (a.free c ob q n hx) hx
  there:=fun c ob q hx=>by
    obtain ⟨o',e1⟩:=a.there c ob q hx
    exact b.there c o' e1 hx
  tups:=fun c xs q=>b.tups c xs (a.tups c xs q)
  frzs:=fun c ob xs q=>b.frzs c ob xs (a.frzs c ob xs q)
  tbls:=fun c ps q=>by
    obtain ⟨m1,e1⟩:=a.tbls c ps q
    obtain ⟨m2,e2⟩:=b.tbls c _ e1
    exact ⟨m1++m2,by rw[e2,Array.append_assoc]⟩
theorem Un.kept (k:∀ b u,h.get? b=some u→h'.get? b=some u):Un fs ex H H h h':=
  ⟨fun b ob q _ _ _=>k b ob q,fun b ob q _ _ _=>⟨ob.slots,k b ob q⟩,fun _ _ _ n _=>n,fun b ob q _=>⟨ob,k b ob q⟩,fun _ _ q=>q,fun _ _ _ q=>q,fun _ ps q=>⟨#[],by rw[q];simp⟩⟩
theorem Un.refl:Un fs ex H H h h:=Un.kept fun _ _ q=>q
theorem Un.laid (k:∀ b u,h.get? b=some u→h'.get? b=some u) (hp:h.objs.size≤a) (hn:H a=none):Un fs ex H (upd H a o) h h' where
  keep:=fun b u q _ _ _=>k b u q
  slot:=fun b u q _ _ _=>⟨u.slots,k b u q⟩
  free:=fun b u q n _=>by rw[upd_ne (Nat.ne_of_lt (Nat.lt_of_lt_of_le (Heap.lt_size q) hp))];exact n
  there:=fun b u q _=>⟨u,k b u q⟩
  tups:=fun b xs q=>by rw[upd_ne (ne_of_none q hn)];exact q
  frzs:=fun b u xs q=>by rw[upd_ne (ne_of_none q hn)];exact q
  tbls:=fun b ps q=>⟨#[],by rw[upd_ne (ne_of_none q hn),q];simp⟩
theorem Un.write (mu:Mut (H x)) (he:e=x∨H e=some (.own x)) (k:∀ b u,b≠e→h.get? b=some u→h'.get? b=some u) (heo:∃ u,h'.get? e=some u):Un fs ex H (upd H x o) h h':=by
  have hx:∀ b,H b=none→b≠x:=fun b n z=>by subst z;rw[n] at mu;exact mu
  have hb:∀ b,H b=none→b≠e:=fun b n z=>by
    subst z
    rcases he with r | r
    · exact hx b n r
    · rw[n] at r;cases r
  have hm:∀ b u,H b=some u→¬ Mut (some u)→b≠x:=fun b u q nm z=>by subst z;rw[q] at mu;exact nm mu
  refine ⟨fun b u q n _ _=>k b u (hb b n) q,fun b u q n _ _=>⟨u.slots,k b u (hb b n) q⟩,fun b u q n _=>by rw[upd_ne (hx b n)];exact n,fun b u q _=>?_,
    fun b xs q=>by rw[upd_ne (hm b _ q fun z=>z)];exact q,fun b u xs q=>by rw[upd_ne (hm b _ q fun z=>z)];exact q,fun b ps q=>⟨#[],by rw[upd_ne (hm b _ q fun z=>z),q];simp⟩⟩
  by_cases hbe:b=e
  · subst hbe;exact heo
  · exact ⟨u,k b u hbe q⟩
theorem Un.mono (u:Un fs ex H H1 h h1) (hs:∀ b∈fs,b∈fs') (hx:∀ b∈ex,b∈ex'):Un fs' ex' H H1 h h1:=
  ⟨fun b ob q n hb he=>u.keep b ob q n (fun z=>hb (hs b z)) fun z=>he (hx b z),fun _ _ q n _ he=>u.any q n fun z=>he (hx _ z),fun b ob q n he=>u.free b ob q n fun z=>he (hx b z),fun b ob q he=>u.there b ob q fun z=>he (hx b z),u.tups,u.frzs,u.tbls⟩
end
def trk (h:Heap) (H:Hp):List Addr:=(List.range h.objs.size).filter fun a=>(H a).isSome
def hidT (h:Heap) (H:Hp):Heap:=PySem.W.hideAll h (trk h H)
theorem hidT_size (h:Heap) (H:Hp):(hidT h H).objs.size=h.objs.size:=PySem.W.hideAll_size _ _
theorem hidT_get {h:Heap} {H:Hp} {b:Addr} {o:Obj} (e:h.get? b=some o) (n:H b=none):(hidT h H).get? b=some o:=
  PySem.W.hideAll_get _ e fun hm=>by
    have q:(H b).isSome=true:=(List.mem_filter.mp hm).2
    rw[n] at q;simp at q
theorem of_hidT {h:Heap} {H:Hp} {b:Addr} {o:Obj} (e:(hidT h H).get? b=some o):h.get? b=some o∧H b=none:=by
  have e':h.get? b=some o:=PySem.W.of_hideAll (trk h H) e
  refine ⟨e',?_⟩
  cases q:H b with
  | none=>rfl
  | some x=>
    have hm:b∈trk h H:=List.mem_filter.mpr ⟨List.mem_range.mpr (Heap.lt_size e'),by simp [q]⟩
    have z:(hidT h H).get? b=none:=PySem.W.hideAll_none (trk h H) hm
    rw[z] at e;cases e
def allNews (g h:Heap) (L:Addr):List (Addr×Obj):=(List.range h.objs.size).filterMap fun a=>if a=L∨(g.get? a).isSome=true then none else (h.get? a).map fun o=>(a,o)
def rest (g h:Heap) (L d:Addr):List (Addr×Obj):=(allNews g h L).filter fun p=>decide (p.1≠d)
end L2
namespace L2
open PySem PySem.Spec PyProof.Rows
structure Mod (K:PySem.W.Frag) (mg:Str→Option Value) (base:Heap):Prop where
  kin:K.In base
  glob:base.Ns mainGlobals mg
  blt:∃ mb,base.Ns builtinsNs mb∧∀ x:Str,x≠"__name__"→mb x=bootBuiltins x
  nolimit:base.NoLimit
structure Cx where
  prog:Program
  w:World
  K:PySem.W.Frag
  mg:Str→Option Value
  base:Heap
  A:Around
  N:List Str
  s₀:Shared
  H₀:Hp
  env:Env
  outer:List Env
  stack:List Env
  ex:List Addr
  fn:Str→Bool
  calm:Bool
  pn:List (Addr×Obj)
  xe:Value→Shared→Prop
def frs (l:List Env):List Addr:=l.filterMap (·.frame)
abbrev Cx.fs (X:Cx):List Addr:=frs X.outer
def Vis (sc:Scope) (x:Str):Prop:=sc.names.lookup x=some .local∨sc.names.lookup x=some .cell∨sc.names.lookup x=some .free
def Loc (sc:Scope) (x:Str):Prop:=sc.names.lookup x=some .local∨sc.names.lookup x=some .cell
def Look (env:Env) (h:Heap) (m:Str→Option Value) (x:Str) (u:Value):Prop:=
  (env.kindOf x=some .local∧m x=some u)∨((env.kindOf x=some .cell∨env.kindOf x=some .free)∧∃ c,env.cells.lookup x=some c∧h.IsCell c (some u))
structure Cx.Ok (X:Cx):Prop where
  mod:Mod X.K X.mg X.base
  kind:X.env.scope.kind=.function
  glob:X.env.globals=mainGlobals
  blt:X.env.builtins=builtinsNs
  above:X.s₀.heap.objs.size≤X.env.locals
  inj:∀ x y c,X.env.cells.lookup x=some c→X.env.cells.lookup y=some c→x=y
  has:∀ x,(X.env.kindOf x=some .cell∨X.env.kindOf x=some .free)→∃ c,X.env.cells.lookup x=some c
  cab:∀ x c,X.fn x=true→X.env.cells.lookup x=some c→X.s₀.heap.objs.size≤c
  hd:X.calm=true→X.A.handled=none
  frames:X.A.frames=some X.stack
  stk:X.stack=X.outer∨(X.stack=X.env :: X.outer∧X.env.frame=some X.env.locals)
  exf:∀ b∈X.ex,b≠X.env.locals∧∀ x c,X.env.cells.lookup x=some c→c≠b
  bs:∀ b o,X.base.get? b=some o→X.s₀.heap.get? b=some o∧X.H₀ b=none
  bsz:X.base.objs.size≤X.s₀.heap.objs.size
  noex:∀ b o,X.base.get? b=some o→b∉X.ex
  exfs:∀ b∈X.ex,b∉X.fs
  funs:X.s₀.heap.FunFrames X.base X.outer
  frf:∀ b∈X.fs,X.H₀ b=none
structure Inv (X:Cx) (pins:List (Addr×Obj)) (σ:List (Option V)) (H:Hp) (s:Shared):Prop where
  ok:X.Ok
  os:s.os=X.s₀.os
  bare:AllBare s.gens
  base:Un X.fs X.ex X.H₀ H X.s₀.heap s.heap
  loc:∃ m,s.heap.Ns X.env.locals m∧∀ (i:Nat) (x:Str) (v:V),X.N[i]?=some x→σ[i]?=some (some v)→Vis X.env.scope x→∃ u,RelV v u∧Look X.env s.heap m x u
  cell:∀ x c,X.env.cells.lookup x=some c→∃ v,s.heap.IsCell c v
  free:H X.env.locals=none
  freeC:∀ x c,X.env.cells.lookup x=some c→H c=none
  pin:∀ p∈X.pn++pins,s.heap.get? p.1=some p.2∧H p.1=none∧p.1≠X.env.locals∧p.1∉X.fs∧∀ v,p.2.data≠.cell v
  hok:HOk X.prog X.w H s.heap
  len:σ.length=X.N.length
section
variable {X:Cx} {pins:List (Addr×Obj)} {σ:List (Option V)} {H H':Hp} {s:Shared} {h':Heap}
theorem Cx.Ok.nofr (ok:X.Ok) {b:Addr} {o:Obj} (e:X.base.get? b=some o):b∉X.fs:=fun hb=>by
  have:=(ok.funs.mem hb).1
  rw[e] at this;cases this
theorem Inv.bs (I:Inv X pins σ H s):∀ b o,X.base.get? b=some o→s.heap.get? b=some o∧H b=none:=fun b o e=>
  ⟨I.base.keep b o (I.ok.bs b o e).1 (I.ok.bs b o e).2 (I.ok.nofr e) (I.ok.noex b o e),I.base.free b o (I.ok.bs b o e).1 (I.ok.bs b o e).2 (I.ok.noex b o e)⟩
theorem Inv.bk (I:Inv X pins σ H s):∀ b o,X.base.get? b=some o→s.heap.get? b=some o:=fun b o e=>(I.bs b o e).1
theorem Inv.mod (I:Inv X pins σ H s):Mod X.K X.mg X.base:=I.ok.mod
theorem Inv.kIn (I:Inv X pins σ H s):X.K.In s.heap:=I.ok.mod.kin.keeps I.bk
theorem Inv.nolimit (I:Inv X pins σ H s):s.heap.NoLimit:=I.ok.mod.nolimit.keeps I.bk
theorem Inv.fr (I:Inv X pins σ H s):∃ m,Fr X.base X.env.locals s.heap m:=
  let ⟨m,hn,_⟩:=I.loc
  ⟨m,hn,I.bk,Nat.le_trans I.ok.bsz I.ok.above⟩
theorem Inv.lt (I:Inv X pins σ H s):X.env.locals < s.heap.objs.size:=let ⟨_,hn,_⟩:=I.loc;hn.lt
theorem Inv.sz (I:Inv X pins σ H s):X.s₀.heap.objs.size≤s.heap.objs.size:=Nat.le_trans I.ok.above (Nat.le_of_lt I.lt)
theorem Inv.nofs (I:Inv X pins σ H s) {a:Addr} (h:s.heap.objs.size≤a):a∉X.fs:=fun hb=>by
  obtain ⟨_,o,ho,_⟩:=I.ok.funs.mem hb
  exact absurd (Nat.lt_of_lt_of_le (Heap.lt_size ho) (Nat.le_trans I.sz h)) (Nat.lt_irrefl _)
theorem Inv.cne (I:Inv X pins σ H s):∀ x c,X.env.cells.lookup x=some c→c≠X.env.locals:=fun x c e z=>by
  obtain ⟨v,o,ho,hd⟩:=I.cell x c e
  obtain ⟨m,⟨o',es,ep,ho',hd',_⟩,_⟩:=I.loc
  rw[z,ho'] at ho;cases ho;rw[hd'] at hd;cases hd
theorem Inv.funs (I:Inv X pins σ H s):s.heap.FunFrames X.base X.outer:=by
  have all:∀ (l:List Env),(∀ b∈frs l,b∈X.fs)→X.s₀.heap.FunFrames X.base l→s.heap.FunFrames X.base l:=by
    intro l
    induction l with
    | nil=>intro _ _;trivial
    | cons env r ih=>
      intro hs hl
      obtain ⟨hk,⟨L,o,hf,hn,ho,hd⟩,hr⟩:=hl
      have hL:L∈X.fs:=hs L (by unfold frs;rw[List.filterMap_cons,hf];exact List.mem_cons_self)
      obtain ⟨sl,e⟩:=I.base.slot L o ho (I.ok.frf L hL) hL fun z=>I.ok.exfs L z hL
      exact ⟨hk,⟨L,_,hf,hn,e,hd⟩,ih (fun b hb=>hs b (by unfold frs;rw[List.filterMap_cons,hf];exact List.mem_cons_of_mem _ hb)) hr⟩
  exact all X.outer (fun _ hb=>hb) I.ok.funs
theorem Inv.stack (I:Inv X pins σ H s):s.heap.FunFrames X.base X.stack:=by
  rcases I.ok.stk with e | ⟨e,hf⟩
  · rw[e];exact I.funs
  · rw[e]
    obtain ⟨m,hn,_⟩:=I.loc
    refine .cons (by rw[I.ok.kind];decide) hf hn ?_ I.funs
    exact Heap.get?_none_of_le (Nat.le_trans I.ok.bsz I.ok.above)
theorem Inv.stkSub (I:Inv X pins σ H s):∀ b∈frs X.stack,b∈X.env.locals :: X.fs:=fun b hb=>by
  rcases I.ok.stk with e | ⟨e,hf⟩
  · rw[e] at hb;exact List.mem_cons_of_mem _ hb
  · rw[e] at hb
    unfold frs at hb
    rw[List.filterMap_cons,hf] at hb
    exact hb
theorem Inv.stkFree (I:Inv X pins σ H s):∀ b∈frs X.stack,H b=none:=fun b hb=>by
  rcases List.mem_cons.mp (I.stkSub b hb) with e | hb
  · rw[e];exact I.free
  · obtain ⟨_,o,ho,_⟩:=I.ok.funs.mem hb
    exact I.base.free b o ho (I.ok.frf b hb) fun z=>I.ok.exfs b z hb
theorem Inv.step {g':Array GenState} {t':Nat} {d':Drawn} {ch:List Addr} (I:Inv X pins σ H s)
    (hch:∀ b∈ch,(b∈X.ex∨X.s₀.heap.objs.size≤b)∧b≠X.env.locals∧(∀ x c,X.env.cells.lookup x=some c→c≠b)∧∀ p∈X.pn++pins,p.1≠b)
    (keep:∀ b o,b≠X.env.locals→b∉X.fs→b∉ch→s.heap.get? b=some o→H b=none→h'.get? b=some o)
    (slot:∀ b o,b≠X.env.locals→b∈X.fs→b∉ch→s.heap.get? b=some o→H b=none→∃ sl,h'.get? b=some { o with slots:=sl }) (free:∀ b o,b∉ch→s.heap.get? b=some o→H b=none→H' b=none)
    (there:∀ b o,b∉ch→s.heap.get? b=some o→∃ o',h'.get? b=some o')
    (tups:∀ b xs,H b=some (.tup xs)→H' b=some (.tup xs)) (frzs:∀ b o u,H b=some (.frz o u)→H' b=some (.frz o u)) (tbls:∀ b ps,H b=some (.tbl ps)→∃ more,H' b=some (.tbl (ps++more)))
    (ns:∀ m,s.heap.Ns X.env.locals m→h'.Ns X.env.locals m) (hok:HOk X.prog X.w H' h') (hg:AllBare g'):
    Inv X pins σ H' { s with heap:=h',gens:=g',drawn:=d',toks:=t' }:=by
  have neL:∀ b o,X.s₀.heap.get? b=some o→b≠X.env.locals:=fun b o e=>Nat.ne_of_lt (Nat.lt_of_lt_of_le (Heap.lt_size e) I.ok.above)
  have neC:∀ b o,X.s₀.heap.get? b=some o→b∉X.ex→b∉ch:=fun b o e hx hb=>by
    rcases (hch b hb).1 with z | z
    · exact hx z
    · exact absurd (Nat.lt_of_lt_of_le (Heap.lt_size e) z) (Nat.lt_irrefl _)
  have cellK:∀ x c,X.env.cells.lookup x=some c→∀ v,s.heap.IsCell c v→h'.IsCell c v:=fun x c e v ⟨o,ho,hd⟩=>by
    have nch:c∉ch:=fun z=>(hch c z).2.2.1 x c e rfl
    by_cases hc:c∈X.fs
    · obtain ⟨sl,q⟩:=slot c o (I.cne x c e) hc nch ho (I.freeC x c e)
      exact ⟨_,q,hd⟩
    · exact ⟨o,keep c o (I.cne x c e) hc nch ho (I.freeC x c e),hd⟩
  refine ⟨I.ok,I.os,hg,⟨fun b o e n hb hx=>?_,fun b o e n hb hx=>?_,fun b o e n hx=>?_,fun b o e hx=>?_,fun b xs e=>tups b xs (I.base.tups b xs e),fun b o xs e=>frzs b o xs (I.base.frzs b o xs e),fun b ps e=>?_⟩,?_,fun x c e=>?_,?_,fun x c e=>?_,fun p hp=>?_,hok,I.len⟩
  · exact keep b o (neL b o e) hb (neC b o e hx) (I.base.keep b o e n hb hx) (I.base.free b o e n hx)
  · obtain ⟨sl,e1⟩:=I.base.slot b o e n hb hx
    obtain ⟨sl',e2⟩:=slot b _ (neL b o e) hb (neC b o e hx) e1 (I.base.free b o e n hx)
    exact ⟨sl',e2⟩
  · obtain ⟨o',e1⟩:=I.base.there b o e hx
    exact free b o' (neC b o e hx) e1 (I.base.free b o e n hx)
  · obtain ⟨o',e1⟩:=I.base.there b o e hx
    exact there b o' (neC b o e hx) e1
  · obtain ⟨m1,e1⟩:=I.base.tbls b ps e
    obtain ⟨m2,e2⟩:=tbls b _ e1
    exact ⟨m1++m2,by rw[e2,Array.append_assoc]⟩
  · obtain ⟨m,hn,hl⟩:=I.loc
    refine ⟨m,ns m hn,fun i x v e1 e2 e3=>?_⟩
    obtain ⟨u,r,l⟩:=hl i x v e1 e2 e3
    refine ⟨u,r,?_⟩
    rcases l with l | ⟨k,c,e,z⟩
    · exact .inl l
    · exact .inr ⟨k,c,e,cellK x c e _ z⟩
  · obtain ⟨v,z⟩:=I.cell x c e
    exact ⟨v,cellK x c e v z⟩
  · obtain ⟨m,⟨o,_,_,ho,_⟩,_⟩:=I.loc
    exact free _ o (fun z=>(hch _ z).2.1 rfl) ho I.free
  · obtain ⟨v,o,ho,hd⟩:=I.cell x c e
    exact free c o (fun z=>(hch c z).2.2.1 x c e rfl) ho (I.freeC x c e)
  · obtain ⟨e,n,ne,nf,d⟩:=I.pin p hp
    have nch:p.1∉ch:=fun z=>(hch p.1 z).2.2.2 p hp rfl
    exact ⟨keep p.1 p.2 ne nf nch e n,free p.1 p.2 nch e n,ne,nf,d⟩
theorem Inv.un {t':Nat} (I:Inv X pins σ H s) (u:Un X.fs [] H H' s.heap h') (hok:HOk X.prog X.w H' h'):Inv X pins σ H' { s with heap:=h',toks:=t' }:=by
  obtain ⟨m,⟨o,es,ep,ho,r⟩,_⟩:=id I.loc
  obtain ⟨sl,hL⟩:=u.any ho I.free (by simp)
  exact I.step (g':=s.gens) (d':=s.drawn) (ch:=[]) (fun _ z=>nomatch z) (fun b o _ hb _ e n=>u.keep b o e n hb (by simp)) (fun b o _ hb _ e n=>u.slot b o e n hb (by simp)) (fun b o _ e n=>u.free b o e n (by simp)) (fun b o _ e=>u.there b o e (by simp)) u.tups u.frzs u.tbls (fun m' hm=>by
    obtain ⟨o',es',ep',ho',r'⟩:=hm
    rw[ho] at ho';cases ho'
    exact ⟨_,es',ep',hL,r'⟩) hok I.bare
theorem Inv.call {g':Array GenState} {t':Nat} {d':Drawn} {ch:List Addr} (I:Inv X pins σ H s) (u:Un (frs X.stack) ch H H' s.heap h') (hok:HOk X.prog X.w H' h') (hg:AllBare g')
    (hch:∀ b∈ch,(b∈X.ex∨X.s₀.heap.objs.size≤b)∧b≠X.env.locals∧(∀ x c,X.env.cells.lookup x=some c→c≠b)∧∀ p∈X.pn++pins,p.1≠b):
    Inv X pins σ H' { s with heap:=h',gens:=g',drawn:=d',toks:=t' }:=by
  obtain ⟨m,⟨o,es,ep,ho,r⟩,_⟩:=id I.loc
  obtain ⟨sl,hL⟩:=u.any ho I.free fun z=>(hch _ z).2.1 rfl
  exact I.step (ch:=ch) hch (fun b o hL hb hc e n=>u.keep b o e n (fun z=>(List.mem_cons.mp (I.stkSub b z)).elim hL hb) hc) (fun b o _ _ hc e n=>u.any e n hc) (fun b o hc e n=>u.free b o e n hc) (fun b o hc e=>u.there b o e hc) u.tups u.frzs u.tbls (fun m' hm=>by
    obtain ⟨o',es',ep',ho',r'⟩:=hm
    rw[ho] at ho';cases ho'
    exact ⟨_,es',ep',hL,r'⟩) hok hg
theorem Inv.turned {t':Nat} {it:Addr} (I:Inv X pins σ H s) (k:∀ b o,b≠it→s.heap.get? b=some o→h'.get? b=some o) (hn:H it=none) (hL:it≠X.env.locals)
    (h1:it∈X.ex∨X.s₀.heap.objs.size≤it) (h2:∀ x c,X.env.cells.lookup x=some c→c≠it) (h3:∀ p∈X.pn++pins,p.1≠it):Inv X pins σ H { s with heap:=h',toks:=t' }:=by
  have nit:∀ b u,H b=some u→b≠it:=fun b u e z=>by rw[z,hn] at e;cases e
  refine I.step (g':=s.gens) (d':=s.drawn) (ch:=[it]) (fun b hb=>?_) (fun b o _ _ hc e _=>k b o (fun z=>hc (by simp [z])) e) (fun b o _ _ hc e _=>⟨o.slots,k b o (fun z=>hc (by simp [z])) e⟩) (fun _ _ _ _ n=>n)
    (fun b o hc e=>⟨o,k b o (fun z=>hc (by simp [z])) e⟩) (fun _ _ e=>e) (fun _ _ _ e=>e) (fun b ps e=>⟨#[],by rw[e];simp⟩) (fun m hm=>?_) (fun b u e=>?_) I.bare
  · have e:b=it:=by simpa using hb
    subst e
    exact ⟨h1,hL,h2,h3⟩
  · obtain ⟨o,es,ep,ho,r⟩:=hm
    exact ⟨o,es,ep,k _ o (Ne.symm hL) ho,r⟩
  · refine (I.hok b u e).stay (fun c v hc q=>k c v ?_ q) (fun _ q=>q) fun _ _ q=>q
    rcases hc with z | z
    · rw[z];exact nit b u e
    · exact nit c _ z
theorem Inv.tok (I:Inv X pins σ H s) (t:Nat):Inv X pins σ H { s with toks:=t }:=I.un (h':=s.heap) (t':=t) Un.refl I.hok
theorem Inv.kept {t':Nat} (I:Inv X pins σ H s) (k:∀ b u,s.heap.get? b=some u→h'.get? b=some u):Inv X pins σ H { s with heap:=h',toks:=t' }:=I.un (Un.kept k) (I.hok.kept k)
theorem Inv.laid {a:Addr} {o:HO} {t':Nat} (I:Inv X pins σ H s) (k:∀ b u,s.heap.get? b=some u→h'.get? b=some u) (hp:s.heap.objs.size≤a) (new:ObjOk X.prog X.w (upd H a o) h' a o):
    Inv X pins σ (upd H a o) { s with heap:=h',toks:=t' }:=I.un (Un.laid k hp (I.hok.fresh hp)) (I.hok.laid k hp new)
theorem Inv.write {x e:Addr} {o:HO} {t':Nat} (I:Inv X pins σ H s) (mu:Mut (H x)) (he:e=x∨H e=some (.own x)) (k:∀ b u,b≠e→s.heap.get? b=some u→h'.get? b=some u) (heo:∃ u,h'.get? e=some u)
    (new:ObjOk X.prog X.w (upd H x o) h' x o):Inv X pins σ (upd H x o) { s with heap:=h',toks:=t' }:=I.un (Un.write mu he k heo) (I.hok.write mu he k heo new)
theorem Inv.pins_of {pins':List (Addr×Obj)} (I:Inv X pins σ H s) (h:∀ p∈pins',s.heap.get? p.1=some p.2∧H p.1=none∧p.1≠X.env.locals∧p.1∉X.fs∧∀ v,p.2.data≠.cell v):Inv X pins' σ H s:=
  ⟨I.ok,I.os,I.bare,I.base,I.loc,I.cell,I.free,I.freeC,fun p hp=>(List.mem_append.mp hp).elim (fun z=>I.pin p (List.mem_append_left _ z)) (h p),I.hok,I.len⟩
theorem nodup_ix {N:List Str} (hN:N.Nodup) {i j:Nat} {x:Str} (a:N[i]?=some x) (b:N[j]?=some x):i=j:=by
  obtain ⟨h1,e1⟩:=List.getElem?_eq_some_iff.mp a
  obtain ⟨h2,e2⟩:=List.getElem?_eq_some_iff.mp b
  exact (List.getElem_inj hN).mp (e1.trans e2.symm)
theorem store_ok2 {M:Model} {A:Around} {E:Value→Shared→Prop} {i:Nat} {x:Str} {v:V} {u:Value} {Q:Unit→Shared→Prop} (I:Inv X pins σ H s) (hN:X.N.Nodup) (hi:X.N[i]?=some x) (hx:Loc X.env.scope x) (r:RelV v u)
    (h:∀ s',Inv X pins (σ.set i (some v)) H s'→(∃ a,Heap.SameBut a s.heap s'.heap∧(a=X.env.locals∨X.env.cells.lookup x=some a))→Q () s') (hf:X.fn x=true∨X.env.scope.names.lookup x=some .local:=by first | exact .inl rfl | exact .inr rfl | assumption):wpAny M A (storeName X.env x u) Q E s:=by
  obtain ⟨m,hn,hl⟩:=id I.loc
  have hcls:(X.env.scope.kind == .class || (X.env.scope.kind == .module&&X.env.locals != X.env.globals))=false:=by rw[I.ok.kind];rfl
  have hiσ:i < σ.length:=by rw[I.len];exact (List.getElem?_eq_some_iff.mp hi).1
  have cne:=I.cne
  have tracked:∀ {a:Addr} {h':Heap},(∃ o,s.heap.get? a=some o∧H a=none)→Heap.SameBut a s.heap h'→HOk X.prog X.w H h':=fun {a h'} ha hs b ob e=>by
    obtain ⟨_,_,hfree⟩:=ha
    refine (I.hok b ob e).stay (fun c w' hc q=>(hs.2 c ?_).trans q) (fun _ q=>q) fun _ _ q=>q
    rintro rfl
    rcases hc with rfl | hc
    · rw[hfree] at e;cases e
    · rw[hfree] at hc;cases hc
  rcases hx with hk | hk
  · refine wpAny_storeName_local hk hn (fun h' hn' hs=>?_) hcls
    obtain ⟨oL,_,_,hoL,_⟩:=id hn
    refine h _ ⟨I.ok,I.os,I.bare,⟨fun b o e n hb hx=>?_,fun b o e n hb hx=>?_,I.base.free,fun b o e hx=>?_,I.base.tups,I.base.frzs,I.base.tbls⟩,⟨_,hn',fun j y v' e1 e2 e3=>?_⟩,fun y c e=>?_,I.free,I.freeC,fun p hp=>?_,tracked ⟨oL,hoL,I.free⟩ hs,by simpa using I.len⟩ ⟨_,hs,.inl rfl⟩
    · exact (hs.2 b (Nat.ne_of_lt (Nat.lt_of_lt_of_le (Heap.lt_size e) I.ok.above))).trans (I.base.keep b o e n hb hx)
    · obtain ⟨sl,e1⟩:=I.base.slot b o e n hb hx
      exact ⟨sl,(hs.2 b (Nat.ne_of_lt (Nat.lt_of_lt_of_le (Heap.lt_size e) I.ok.above))).trans e1⟩
    · obtain ⟨o',e1⟩:=I.base.there b o e hx
      exact ⟨o',(hs.2 b (Nat.ne_of_lt (Nat.lt_of_lt_of_le (Heap.lt_size e) I.ok.above))).trans e1⟩
    · by_cases hj:j=i
      · subst hj
        rw[hi] at e1;cases e1
        rw[List.getElem?_set_self hiσ] at e2
        cases e2
        exact ⟨u,r,.inl ⟨hk,by simp⟩⟩
      · rw[List.getElem?_set_ne (Ne.symm hj)] at e2
        obtain ⟨u',r',q⟩:=hl j y v' e1 e2 e3
        refine ⟨u',r',?_⟩
        rcases q with ⟨k,e⟩ | ⟨k,c,e,z⟩
        · refine .inl ⟨k,?_⟩
          have:y≠x:=fun e=>hj (nodup_ix hN e1 (e▸hi))
          simp [this,e]
        · exact .inr ⟨k,c,e,z.sameBut hs (cne y c e)⟩
    · obtain ⟨w',z⟩:=I.cell y c e
      exact ⟨w',z.sameBut hs (cne y c e)⟩
    · obtain ⟨e,n,ne,nf,d⟩:=I.pin p hp
      exact ⟨(hs.2 p.1 ne).trans e,n,ne,nf,d⟩
  · have hfn:X.fn x=true:=by
      rcases hf with z | z
      · exact z
      · rw[z] at hk;cases hk
    obtain ⟨c,hc⟩:=I.ok.has x (.inl hk)
    obtain ⟨w',z⟩:=I.cell x c hc
    refine wpAny_storeName_cell I.ok.kind hk hc z (fun h' hc' hs=>?_)
    obtain ⟨oc,hoc,hocd⟩:=id z
    refine h { s with heap:=h' } ⟨I.ok,I.os,I.bare,⟨fun b o e n hb hx=>?_,fun b o e n hb hx=>?_,I.base.free,fun b o e hx=>?_,I.base.tups,I.base.frzs,I.base.tbls⟩,⟨m,hn.sameBut hs (Ne.symm (cne x c hc)),fun j y v' e1 e2 e3=>?_⟩,fun y c' e=>?_,I.free,I.freeC,fun p hp=>?_,tracked ⟨oc,hoc,I.freeC x c hc⟩ hs,by simpa using I.len⟩ ⟨c,hs,.inr hc⟩
    · exact (hs.2 b (Nat.ne_of_lt (Nat.lt_of_lt_of_le (Heap.lt_size e) (I.ok.cab x c hfn hc)))).trans (I.base.keep b o e n hb hx)
    · obtain ⟨sl,e1⟩:=I.base.slot b o e n hb hx
      exact ⟨sl,(hs.2 b (Nat.ne_of_lt (Nat.lt_of_lt_of_le (Heap.lt_size e) (I.ok.cab x c hfn hc)))).trans e1⟩
    · obtain ⟨o',e1⟩:=I.base.there b o e hx
      exact ⟨o',(hs.2 b (Nat.ne_of_lt (Nat.lt_of_lt_of_le (Heap.lt_size e) (I.ok.cab x c hfn hc)))).trans e1⟩
    · by_cases hj:j=i
      · subst hj
        rw[hi] at e1;cases e1
        rw[List.getElem?_set_self hiσ] at e2
        cases e2
        exact ⟨u,r,.inr ⟨.inl hk,c,hc,hc'⟩⟩
      · rw[List.getElem?_set_ne (Ne.symm hj)] at e2
        obtain ⟨u',r',q⟩:=hl j y v' e1 e2 e3
        refine ⟨u',r',?_⟩
        rcases q with q | ⟨k,c',e,z'⟩
        · exact .inl q
        · refine .inr ⟨k,c',e,z'.sameBut hs ?_⟩
          rintro rfl
          exact hj (nodup_ix hN e1 (I.ok.inj _ _ _ e hc▸hi))
    · by_cases hcc:c'=c
      · subst hcc;exact ⟨_,hc'⟩
      · obtain ⟨w2,z2⟩:=I.cell y c' e
        exact ⟨w2,z2.sameBut hs hcc⟩
    · obtain ⟨e,n,ne,nf,d⟩:=I.pin p hp
      refine ⟨(hs.2 p.1 ?_).trans e,n,ne,nf,d⟩
      intro q
      rw[q,hoc] at e
      have q':oc=p.2:=Option.some.inj e
      exact d w' (by rw[←q'];exact hocd)
theorem store_ok {M:Model} {A:Around} {E:Value→Shared→Prop} {i:Nat} {x:Str} {v:V} {u:Value} {Q:Unit→Shared→Prop} (I:Inv X pins σ H s) (hN:X.N.Nodup) (hi:X.N[i]?=some x) (hx:Loc X.env.scope x) (r:RelV v u)
    (h:∀ s',Inv X pins (σ.set i (some v)) H s'→Q () s') (hf:X.fn x=true∨X.env.scope.names.lookup x=some .local:=by first | exact .inl rfl | exact .inr rfl | assumption):wpAny M A (storeName X.env x u) Q E s:=
  store_ok2 I hN hi hx r (fun s' I' _=>h s' I') hf
theorem Inv.call' {s':Shared} {ch:List Addr} (I:Inv X pins σ H s) (ho:s'.os=s.os) (u:Un (frs X.stack) ch H H' s.heap s'.heap) (hok:HOk X.prog X.w H' s'.heap) (hg:AllBare s'.gens)
    (hch:∀ b∈ch,(b∈X.ex∨X.s₀.heap.objs.size≤b)∧b≠X.env.locals∧(∀ x c,X.env.cells.lookup x=some c→c≠b)∧∀ p∈X.pn++pins,p.1≠b):Inv X pins σ H' s':=by
  obtain ⟨h',g',d',t',o'⟩:=s'
  have e:o'=s.os:=ho
  subst e
  exact I.call (g':=g') (t':=t') (d':=d') u hok hg hch
end
abbrev XK:=Value→Option Addr→Hp→Prop
abbrev St:=List (Option V)
abbrev VK:=V→Hp→Prop
abbrev TE:=St→Hp→VK→Prop
abbrev TT:=St→Hp→(Bool→Hp→Prop)→Prop
abbrev TA:=St→Hp→(List V→Hp→Prop)→Prop
structure Ends where
  nx:St→Hp→Prop
  rt:VK
  bk:St→Hp→Prop:=fun _ _=>False
  ct:St→Hp→Prop:=fun _ _=>False
abbrev TS:=Ends→St→Hp→Prop
def EP (X:Cx) (pins:List (Addr×Obj)) (σ:St) (Q:VK) (u:Value) (s':Shared):Prop:=∃ v H',Inv X pins σ H' s'∧RelV v u∧Q v H'
def TP (X:Cx) (pins:List (Addr×Obj)) (σ:St) (Q:Bool→Hp→Prop) (b:Bool) (s':Shared):Prop:=∃ H',Inv X pins σ H' s'∧Q b H'
def AP (X:Cx) (pins:List (Addr×Obj)) (σ:St) (Q:List V→Hp→Prop) (us:List Value) (s':Shared):Prop:=∃ vs H',Inv X pins σ H' s'∧Vals vs us∧Q vs H'
def SP (X:Cx) (pins:List (Addr×Obj)) (D:Ends) (f:Flow) (s':Shared):Prop:=
  match f with
  | .next=>∃ σ' H',Inv X pins σ' H' s'∧D.nx σ' H'
  | .brk=>∃ σ' H',Inv X pins σ' H' s'∧D.bk σ' H'
  | .cont=>∃ σ' H',Inv X pins σ' H' s'∧D.ct σ' H'
  | .ret u=>∃ v σ' H',Inv X pins σ' H' s'∧RelV v u∧D.rt v H'
def PE (X:Cx) (e:Expr) (t:TE):Prop:=
  ∀ (pins:List (Addr×Obj)) (s:Shared) (σ:St) (H:Hp) (Q:VK),Inv X pins σ H s→t σ H Q→wpAny (model X.prog X.w) X.A (eval e X.env) (EP X pins σ Q) X.xe s
def PT (X:Cx) (e:Expr) (t:TT):Prop:=
  ∀ (pins:List (Addr×Obj)) (s:Shared) (σ:St) (H:Hp) (Q:Bool→Hp→Prop),Inv X pins σ H s→t σ H Q→wpAny (model X.prog X.w) X.A (isTrue e X.env (eval e X.env)) (TP X pins σ Q) X.xe s
def PW (X:Cx) (e:Expr) (t:TT):Prop:=
  ∀ (whole:Sem Value) (pins:List (Addr×Obj)) (s:Shared) (σ:St) (H:Hp) (Q:Bool→Hp→Prop),Inv X pins σ H s→t σ H Q→wpAny (model X.prog X.w) X.A (isTrue e X.env whole) (TP X pins σ Q) X.xe s
theorem PW.pt {X:Cx} {e:Expr} {t:TT} (h:PW X e t):PT X e t:=h _
def PA (X:Cx) (es:List Expr) (t:TA):Prop:=
  ∀ (pos:Pos) (pins:List (Addr×Obj)) (s:Shared) (σ:St) (H:Hp) (Q:List V→Hp→Prop),Inv X pins σ H s→t σ H Q→wpAny (model X.prog X.w) X.A (spliced (backTo pos (starEach es X.env))) (AP X pins σ Q) X.xe s
def PS (X:Cx) (st:Stmt) (t:TS):Prop:=
  ∀ (pins:List (Addr×Obj)) (s:Shared) (σ:St) (H:Hp) (D:Ends),Inv X pins σ H s→t D σ H→wpAny (model X.prog X.w) X.A (exec st X.env) (SP X pins D) X.xe s
def PSs (X:Cx) (st:List Stmt) (t:TS):Prop:=
  ∀ (pins:List (Addr×Obj)) (s:Shared) (σ:St) (H:Hp) (D:Ends),Inv X pins σ H s→t D σ H→wpAny (model X.prog X.w) X.A (execs st X.env) (SP X pins D) X.xe s
theorem thn {α:Type} {t:Sem α} {Q Q':α→Shared→Prop} {M:Model} {A:Around} {E:Value→Shared→Prop} {s:Shared} (h:wpAny M A t Q E s) (hQ:∀ a s,Q a s→Q' a s):wpAny M A t Q' E s:=wpAny_mono h hQ fun _ _ x=>x
end L2
namespace L2
open PySem PySem.Spec PyProof.Rows
section
variable {X:Cx}
def tVar (i:Nat):TE:=fun σ H Q=>∃ v,σ[i]?=some (some v)∧Q v H
def tC (v:V):TE:=fun _ H Q=>Q v H
theorem pe_var {i:Nat} {x:Str} {pos:Pos} (hN:X.N[i]?=some x) (hv:Vis X.env.scope x) (hd:(x == ("__debug__":Str))=false:=by decide) (hcd:(x == ("__classdict__":Str))=false:=by decide):PE X (.Name x pos) (tVar i):=by
  intro pins s σ H Q I h
  obtain ⟨v,e,h⟩:=h
  obtain ⟨m,hn,hl⟩:=I.loc
  obtain ⟨u,r,l⟩:=hl i x v hN e hv
  have fin:EP X pins σ Q u s:=⟨v,H,I,r,h⟩
  rcases l with ⟨hk,hm⟩ | ⟨hk,c,hc,hcell⟩
  · exact wpAny_Name (wpAny_loadName_local I.ok.kind hk hn hm fin) hd
  · rcases hk with hk | hk
    · exact wpAny_Name (wpAny_loadName_cell I.ok.kind hk hc hcell fin) hd
    · exact wpAny_Name (wpAny_loadName_free I.ok.kind hk hc hcell fin hcd) hd
theorem pe_int {i j pos}:PE X (.Constant (.int i) j pos) (tC (.int i)):=fun _ _ _ H _ I h=>wpAny_Constant_int ⟨.int i,H,I.tok _,⟨_,rfl⟩,h⟩
theorem pe_bl {b j pos}:PE X (.Constant (.bool b) j pos) (tC (.bl b)):=fun _ _ _ H _ I h=>Constant_bool ⟨.bl b,H,I,rfl,h⟩
theorem pe_non {j pos}:PE X (.Constant .none j pos) (tC .non):=fun _ _ _ H _ I h=>Constant_none ⟨.non,H,I,rfl,h⟩
theorem pe_str {x j pos}:PE X (.Constant (.str x) j pos) (tC (.str x)):=fun _ _ _ H _ I h=>Calls.Constant_str ⟨.str x,H,I.tok _,⟨_,rfl⟩,h⟩
def Gl (X:Cx) (x:Str):Prop:=X.env.kindOf x=some .globalImplicit
theorem ld_glob {E:Value→Shared→Prop} {pins:List (Addr×Obj)} {s:Shared} {σ:St} {H:Hp} {x:Str} {u:Value} {pos:Pos} {Q:Value→Shared→Prop} (I:Inv X pins σ H s) (hg:Gl X x) (hm:X.mg x=some u) (h:Q u s)
    (hd:(x == ("__debug__":Str))=false:=by decide):wpAny (model X.prog X.w) X.A (eval (.Name x pos) X.env) Q E s:=
  Calls.Name_function_global I.ok.kind hg (Calls.loadGlobal_global (by rw[I.ok.glob];exact I.mod.glob.keeps I.bk) hm h) hd
theorem ld_blt {E:Value→Shared→Prop} {pins:List (Addr×Obj)} {s:Shared} {σ:St} {H:Hp} {x:Str} {u:Value} {pos:Pos} {Q:Value→Shared→Prop} (I:Inv X pins σ H s) (hg:Gl X x) (hm:X.mg x=none) (hv:bootBuiltins x=some u) (h:Q u s)
    (hn:x≠"__name__":=by decide) (hd:(x == ("__debug__":Str))=false:=by decide):wpAny (model X.prog X.w) X.A (eval (.Name x pos) X.env) Q E s:=by
  obtain ⟨mb,h1,h2⟩:=I.mod.blt
  exact Calls.Name_function_global I.ok.kind hg (Calls.loadGlobal_builtin (by rw[I.ok.glob];exact I.mod.glob.keeps I.bk) hm (by rw[I.ok.blt];exact h1.keeps I.bk) ((h2 x hn).trans hv) h) hd
theorem pe_glob {x:Str} {v:V} {u:Value} {pos:Pos} (hg:Gl X x) (hm:X.mg x=some u) (r:RelV v u) (hd:(x == ("__debug__":Str))=false:=by decide):PE X (.Name x pos) (tC v):=
  fun _ _ _ H _ I h=>ld_glob I hg hm ⟨v,H,I,r,h⟩ hd
theorem pe_bltn {x:Str} {v:V} {u:Value} {pos:Pos} (hg:Gl X x) (hm:X.mg x=none) (hv:bootBuiltins x=some u) (r:RelV v u) (hn:x≠"__name__":=by decide) (hd:(x == ("__debug__":Str))=false:=by decide):PE X (.Name x pos) (tC v):=
  fun _ _ _ H _ I h=>ld_blt I hg hm hv ⟨v,H,I,r,h⟩ hn hd
variable {a b:Expr} {ta tb:TE} {pos:Pos}
def tB (t:TE):TT:=fun σ H Q=>t σ H fun x H1=>∃ c,x=.bl c∧Q c H1
theorem pt_val {e:Expr} {t:TE} (h:PE X e t) (he:∀ whole,isTrue e X.env whole=(do let v ←whole;standAt e.pos;holding [v] (truthy v)):=by intro _;rfl):PT X e (tB t):=by
  intro pins s σ H Q I hw
  refine isTrue_plain (thn (h pins s σ H _ I hw) fun v s1 ⟨x,H1,I1,r1,q1⟩=>?_) (he _)
  obtain ⟨d,rfl,q⟩:=q1
  cases r1
  exact wpAny_truthy_bool ⟨H1,I1,q⟩
variable {tA tB':TT} {rest:List Expr}
def tAnd (t u:TT):TT:=fun σ H Q=>t σ H fun c H1=>if c=true then u σ H1 Q else Q false H1
def tOr (t u:TT):TT:=fun σ H Q=>t σ H fun c H1=>if c=true then Q true H1 else u σ H1 Q
def tNot (t:TT):TT:=fun σ H Q=>t σ H fun c H1=>Q (!c) H1
theorem pw_and1 (ha:PT X a tA):PW X (.BoolOp .And [a] pos) tA:=by
  intro wh pins s σ H Q I h
  refine isTrue_and (thn (ha pins s σ H Q I h) fun c s1 e=>?_)
  cases c with
  | true=>exact isTrue_and_nil e
  | false=>exact e
theorem pw_or1 (ha:PT X a tA):PW X (.BoolOp .Or [a] pos) tA:=by
  intro wh pins s σ H Q I h
  refine isTrue_or (thn (ha pins s σ H Q I h) fun c s1 e=>?_)
  cases c with
  | false=>exact isTrue_or_nil e
  | true=>exact e
theorem pw_and (ha:PT X a tA) (hb:PW X (.BoolOp .And (b :: rest) pos) tB'):PW X (.BoolOp .And (a :: b :: rest) pos) (tAnd tA tB'):=by
  intro wh pins s σ H Q I h
  refine isTrue_and (thn (ha pins s σ H _ I h) fun c s1 ⟨H1,I1,q1⟩=>?_)
  cases c with
  | true=>exact hb wh pins s1 σ H1 Q I1 q1
  | false=>exact ⟨H1,I1,q1⟩
theorem pw_or (ha:PT X a tA) (hb:PW X (.BoolOp .Or (b :: rest) pos) tB'):PW X (.BoolOp .Or (a :: b :: rest) pos) (tOr tA tB'):=by
  intro wh pins s σ H Q I h
  refine isTrue_or (thn (ha pins s σ H _ I h) fun c s1 ⟨H1,I1,q1⟩=>?_)
  cases c with
  | true=>exact ⟨H1,I1,q1⟩
  | false=>exact hb wh pins s1 σ H1 Q I1 q1
theorem pt_not (ha:PT X a tA):PT X (.UnaryOp .Not a pos) (tNot tA):=by
  intro pins s σ H Q I h
  exact isTrue_not (ha pins s σ H (fun c H1=>Q (!c) H1) I h)
def tAndV (ta tb:TE):TE:=fun σ H Q=>ta σ H fun x H1=>∃ c,x=.bl c∧if c=true then tb σ H1 Q else Q (.bl false) H1
def tOrV (ta tb:TE):TE:=fun σ H Q=>ta σ H fun x H1=>∃ c,x=.bl c∧if c=true then Q (.bl true) H1 else tb σ H1 Q
def tNotV (ta:TE):TE:=fun σ H Q=>ta σ H fun x H1=>∃ c,x=.bl c∧Q (.bl (!c)) H1
theorem pe_one {op} {t:TE} (h:PE X a t):PE X (.BoolOp op [a] pos) t:=fun pins s σ H Q I hw=>BoolOp_one (h pins s σ H Q I hw)
theorem pe_and (ha:PE X a ta) (hb:PE X (.BoolOp .And (b :: rest) pos) tb):PE X (.BoolOp .And (a :: b :: rest) pos) (tAndV ta tb):=by
  intro pins s σ H Q I h
  refine BoolOp_and (thn (ha pins s σ H _ I h) fun v s1 ⟨x,H1,I1,r1,q1⟩=>?_)
  obtain ⟨c,rfl,q1⟩:=q1
  cases r1
  refine wpAny_truthy_bool ?_
  cases c with
  | true=>exact hb pins s1 σ H1 Q I1 q1
  | false=>exact ⟨.bl false,H1,I1,rfl,q1⟩
def tIf (t:TT) (ta tb:TE):TE:=fun σ H Q=>t σ H fun c H1=>if c=true then ta σ H1 Q else tb σ H1 Q
theorem pe_ifExp {c:Expr} (hc:PT X c tA) (ha:PE X a ta) (hb:PE X b tb):PE X (.IfExp c a b pos) (tIf tA ta tb):=by
  intro pins s σ H Q I h
  refine wpAny_IfExp (thn (hc pins s σ H _ I h) fun d s1 ⟨H1,I1,q1⟩=>?_)
  cases d with
  | true=>exact ha pins s1 σ H1 Q I1 q1
  | false=>exact hb pins s1 σ H1 Q I1 q1
end
end L2
namespace L2
open PySem PySem.Spec PyProof.Rows
def SqL (K:PySem.W.Frag) (H:Hp) (a:Addr) (xs:List V):Prop:=
  Rd H a (.lst xs) ∨
    ∃ (o:Obj) (its:Array Value) (n:Nat),K.lookup a=some o∧o.cls=.type "list"∧o.dict=none∧o.data=.seq its n∧its.size≤sizeLine∧Vals xs its.toList
def SqT (K:PySem.W.Frag) (H:Hp) (a:Addr) (xs:List V):Prop:=
  Rd H a (.tup xs) ∨
    ∃ (o:Obj) (its:Array Value) (n:Nat),K.lookup a=some o∧o.cls=.type "tuple"∧o.data=.seq its n∧its.size≤sizeLine∧Vals xs its.toList
def absV:Value→Option V
  | .none=>some .non
  | .bool b=>some (.bl b)
  | .int i _=>some (.int i)
  | .str x _=>some (.str x)
  | .bytes b _=>some (.byt b)
  | .float b _=>some (.flt b)
  | .ref a=>some (.ref a)
  | .type n=>some (.ty n)
  | _=>none
theorem RelV.abs {x:V} {u:Value} (r:RelV x u):absV u=some x:=by
  cases x with
  | non=>cases r;rfl
  | bl _=>cases r;rfl
  | int _=>obtain ⟨t,rfl⟩:=r;rfl
  | str _=>obtain ⟨t,rfl⟩:=r;rfl
  | byt _=>obtain ⟨t,rfl⟩:=r;rfl
  | flt _=>obtain ⟨t,rfl⟩:=r;rfl
  | ref _=>cases r;rfl
  | ty _=>cases r;rfl
theorem RelV.inj {x y:V} {u:Value} (r:RelV x u) (q:RelV y u):x=y:=Option.some.inj (r.abs.symm.trans q.abs)
theorem Vals.inj:∀ {xs ys:List V} {us:List Value},Vals xs us→Vals ys us→xs=ys
  | _,_,_,.nil,.nil=>rfl
  | _,_,_,.cons r t,.cons r' t'=>by rw[r.inj r',Vals.inj t t']
section
variable {X:Cx} {pins:List (Addr×Obj)} {σ:St} {H:Hp} {s:Shared} {a:Addr} {xs ys:List V}
theorem SqL.of {K:PySem.W.Frag} (h:H a=some (.lst xs)):SqL K H a xs:=.inl (.inl h)
theorem SqT.of {K:PySem.W.Frag} (h:H a=some (.tup xs)):SqT K H a xs:=.inl (.inl h)
theorem Inv.list (I:Inv X pins σ H s) (h:SqL X.K H a xs):∃ its:List Value,Vals xs its∧PlainL s.heap a its.toArray∧xs.length≤sizeLine:=by
  rcases h with h | ⟨o,its,n,hk,hc,hd,hs,hz,r⟩
  · obtain ⟨z,its,n,r,e⟩:=h.ok I.hok
    exact ⟨its,r,⟨_,n,e,rfl,rfl,rfl⟩,z⟩
  · refine ⟨its.toList,r,⟨o,n,I.kIn a o hk,hc,hd,by simpa using hs⟩,?_⟩
    have e:=r.length
    simp only[Array.length_toList] at e
    omega
theorem Inv.tuple (I:Inv X pins σ H s) (h:SqT X.K H a xs):∃ its:List Value,Vals xs its∧IsTup s.heap a its.toArray∧xs.length≤sizeLine:=by
  rcases h with h | ⟨o,its,n,hk,hc,hs,hz,r⟩
  · obtain ⟨z,its,r,p⟩:=h.ok I.hok
    exact ⟨its,r,p,z⟩
  · refine ⟨its.toList,r,⟨o,I.kIn a o hk,hc,n,by simpa using hs⟩,?_⟩
    have e:=r.length
    simp only[Array.length_toList] at e
    omega
theorem Inv.list_inj (I:Inv X pins σ H s) (h:SqL X.K H a xs) (h':SqL X.K H a ys):xs=ys:=by
  obtain ⟨its,r,⟨o,n,e,_,_,d⟩,_⟩:=I.list h
  obtain ⟨its',r',⟨o',n',e',_,_,d'⟩,_⟩:=I.list h'
  rw[e] at e';cases e'
  rw[d] at d'
  injection d' with d1 _
  have:its=its':=by simpa using congrArg Array.toList d1
  subst this
  exact r.inj r'
theorem Inv.tuple_inj (I:Inv X pins σ H s) (h:SqT X.K H a xs) (h':SqT X.K H a ys):xs=ys:=by
  obtain ⟨its,r,⟨o,e,_,n,d⟩,_⟩:=I.tuple h
  obtain ⟨its',r',⟨o',e',_,n',d'⟩,_⟩:=I.tuple h'
  rw[e] at e';cases e'
  rw[d] at d'
  injection d' with d1 _
  have:its=its':=by simpa using congrArg Array.toList d1
  subst this
  exact r.inj r'
end
abbrev Cx.wish (X:Cx) (E:Value→Shared→Prop):Cx:={ X with xe:=E }
abbrev Cx.nox (X:Cx):Cx:=X.wish fun _ _=>False
theorem Cx.Ok.wish {X:Cx} (ok:X.Ok) (E:Value→Shared→Prop):(X.wish E).Ok:=
  ⟨ok.mod,ok.kind,ok.glob,ok.blt,ok.above,ok.inj,ok.has,ok.cab,ok.hd,ok.frames,ok.stk,ok.exf,ok.bs,ok.bsz,ok.noex,ok.exfs,ok.funs,ok.frf⟩
theorem Cx.Ok.unwish {X:Cx} {E:Value→Shared→Prop} (ok:(X.wish E).Ok):X.Ok:=
  ⟨ok.mod,ok.kind,ok.glob,ok.blt,ok.above,ok.inj,ok.has,ok.cab,ok.hd,ok.frames,ok.stk,ok.exf,ok.bs,ok.bsz,ok.noex,ok.exfs,ok.funs,ok.frf⟩
section
variable {X:Cx} {pins:List (Addr×Obj)} {σ:St} {H:Hp} {s:Shared} {E:Value→Shared→Prop}
theorem Inv.wish (I:Inv X pins σ H s) (E:Value→Shared→Prop):Inv (X.wish E) pins σ H s:=⟨I.ok.wish E,I.os,I.bare,I.base,I.loc,I.cell,I.free,I.freeC,I.pin,I.hok,I.len⟩
theorem Inv.unwish (I:Inv (X.wish E) pins σ H s):Inv X pins σ H s:=⟨I.ok.unwish,I.os,I.bare,I.base,I.loc,I.cell,I.free,I.freeC,I.pin,I.hok,I.len⟩
theorem SP.unwish {D:Ends} {f:Flow} {s':Shared} (h:SP (X.wish E) pins D f s'):SP X pins D f s':=by
  cases f with
  | next=>obtain ⟨σ',H',I,q⟩:=h;exact ⟨σ',H',I.unwish,q⟩
  | brk=>obtain ⟨σ',H',I,q⟩:=h;exact ⟨σ',H',I.unwish,q⟩
  | cont=>obtain ⟨σ',H',I,q⟩:=h;exact ⟨σ',H',I.unwish,q⟩
  | ret u=>obtain ⟨v,σ',H',I,r,q⟩:=h;exact ⟨v,σ',H',I.unwish,r,q⟩
theorem PE.nox {e:Expr} {t:TE} (h:PE X.nox e t):PE X e t:=fun pins s σ H Q I hw=>
  wpAny_mono (h pins s σ H Q (I.wish _) hw) (fun _ _ ⟨v,H',I',r,q⟩=>⟨v,H',I'.unwish,r,q⟩) fun _ _ z=>False.elim z
theorem PT.nox {e:Expr} {t:TT} (h:PT X.nox e t):PT X e t:=fun pins s σ H Q I hw=>
  wpAny_mono (h pins s σ H Q (I.wish _) hw) (fun _ _ ⟨H',I',q⟩=>⟨H',I'.unwish,q⟩) fun _ _ z=>False.elim z
theorem PSs.nox {st:List Stmt} {t:TS} (h:PSs X.nox st t):PSs X st t:=fun pins s σ H D I hw=>
  wpAny_mono (h pins s σ H D (I.wish _) hw) (fun _ _ q=>q.unwish) fun _ _ z=>False.elim z
end
section
variable {X:Cx} {st:Stmt} {rest:List Stmt} {t u:TS} {e:Expr} {te:TE} {pos:Pos}
def tNext:TS:=fun D σ H=>D.nx σ H
def tSeq (t u:TS):TS:=fun D σ H=>t { D with nx:=u D } σ H
theorem pss_nil:PSs X [] tNext:=fun _ _ σ H _ I h=>wpAny_execs_nil ⟨σ,H,I,h⟩
theorem pss_cons (h1:PS X st t) (h2:PSs X rest u):PSs X (st :: rest) (tSeq t u):=by
  intro pins s σ H D I h
  refine wpAny_execs_cons (thn (h1 pins s σ H { D with nx:=u D } I h) fun f s1 q=>?_)
  cases f with
  | next=>
    obtain ⟨σ',H',I',q⟩:=q
    exact h2 pins s1 σ' H' D I' q
  | ret v=>exact q
  | brk=>exact q
  | cont=>exact q
theorem pss_one (h1:PS X st t):PSs X [st] t:=by
  intro pins s σ H D I h
  refine wpAny_execs_cons (thn (h1 pins s σ H D I h) fun f s1 q=>?_)
  cases f with
  | next=>exact wpAny_execs_nil q
  | ret v=>exact q
  | brk=>exact q
  | cont=>exact q
theorem Inv.quiet {pins:List (Addr×Obj)} {σ:St} {H:Hp} {s:Shared} (I:Inv X pins σ H s):interactive X.env=false:=by simp [interactive,I.ok.kind]
def tDrop (te:TE):TS:=fun D σ H=>te σ H fun _ H1=>D.nx σ H1
theorem ps_expr (he:PE X e te) (hs:swapsWith e none pos.line X.env=pure false:=by rfl):PS X (.Expr e pos) (tDrop te):=by
  intro pins s σ H D I h
  exact wpAny_Expr_any (thn (he pins s σ H _ I h) fun v s1 ⟨x,H1,I1,r1,q1⟩=>⟨σ,H1,I1,q1⟩) I.quiet hs
def tRet (te:TE):TS:=fun D σ H=>te σ H D.rt
theorem ps_ret (he:PE X e te):PS X (.Return (some e) pos) (tRet te):=by
  intro pins s σ H D I h
  exact wpAny_Return_some (thn (he pins s σ H _ I h) fun v s1 ⟨x,H1,I1,r1,q1⟩=>⟨x,σ,H1,I1,r1,q1⟩)
def tRetN:TS:=fun D _ H=>D.rt .non H
def tIfS (c:TT) (t u:TS):TS:=fun D σ H=>c σ H fun b H1=>if b=true then t D σ H1 else u D σ H1
theorem ps_if {c:Expr} {a b:List Stmt} {tc:TT} (hc:PT X c tc) (ha:PSs X a t) (hb:PSs X b u):PS X (.If c a b pos) (tIfS tc t u):=by
  intro pins s σ H D I h
  refine wpAny_If (thn (hc pins s σ H _ I h) fun d s1 ⟨H1,I1,q1⟩=>?_)
  cases d with
  | true=>exact ha pins s1 σ H1 D I1 q1
  | false=>exact hb pins s1 σ H1 D I1 q1
end
abbrev TG:=V→St→Hp→(St→Hp→Prop)→Prop
abbrev TGs:=List V→St→Hp→(St→Hp→Prop)→Prop
def PG (X:Cx) (target:Expr) (t:TG):Prop:=
  ∀ (pins:List (Addr×Obj)) (s:Shared) (σ:St) (H:Hp) (v:V) (u:Value) (Q:St→Hp→Prop),Inv X pins σ H s→RelV v u→t v σ H Q →
    wpAny (model X.prog X.w) X.A (assign target X.env u) (fun _ s'=>∃ σ' H',Inv X pins σ' H' s'∧Q σ' H') X.xe s
abbrev TIp:=V→V→Hp→VK→Prop
def PIp (X:Cx) (op:Operator) (t:TIp):Prop:=
  ∀ (pins:List (Addr×Obj)) (s:Shared) (σ:St) (H:Hp) (x y:V) (v u:Value) (Q:VK),Inv X pins σ H s→RelV x v→RelV y u→t x y H Q →
    wpAny (model X.prog X.w) X.A (inplaceOp op v u) (EP X pins σ Q) X.xe s
section
variable {X:Cx} {pos:Pos}
def gName (i:Nat):TG:=fun v σ H Q=>Q (σ.set i (some v)) H
theorem pg_name {i:Nat} {x:Str} (hN:X.N.Nodup) (hi:X.N[i]?=some x) (hx:Loc X.env.scope x) (hf:X.fn x=true∨X.env.scope.names.lookup x=some .local:=by first | exact .inl rfl | exact .inr rfl | assumption):PG X (.Name x pos) (gName i):=by
  intro pins s σ H v u Q I r h
  exact wpAny_assign_Name (store_ok I hN hi hx r (fun s' I'=>⟨_,H,I',h⟩) hf)
def gNil:TGs:=fun vs σ H Q=>vs=[]∧Q σ H
def gCons (t:TG) (u:TGs):TGs:=fun vs σ H Q=>∃ v r,vs=v :: r∧t v σ H fun σ' H'=>u r σ' H' Q
def gTup (K:PySem.W.Frag) (n:Nat) (t:TGs):TG:=fun v σ H Q=>∃ a xs,v=.ref a∧SqT K H a xs∧xs.length=n∧t xs σ H Q
def tAsg (te:TE) (g:TG):TS:=fun D σ H=>te σ H fun x H1=>g x σ H1 D.nx
theorem ps_set {i:Nat} {x:Str} {e:Expr} {te:TE} {pos':Pos} (hN:X.N.Nodup) (hi:X.N[i]?=some x) (hx:Loc X.env.scope x) (he:PE X e te) (hs:swapsWith e (some (.Name x pos')) pos.line X.env=pure false:=by rfl) (hf:X.fn x=true∨X.env.scope.names.lookup x=some .local:=by first | exact .inl rfl | exact .inr rfl | assumption):
    PS X (.Assign [.Name x pos'] e pos) (tAsg te (gName i)):=by
  intro pins s σ H D I h
  refine wpAny_Assign_Name (thn (he pins s σ H _ I h) fun v s1 ⟨y,H1,I1,r1,q1⟩=>?_) hs
  exact store_ok I1 hN hi hx r1 (fun s2 I2=>⟨_,H1,I2,q1⟩) hf
def tPar (i j:Nat) (ta:TA):TS:=fun D σ H=>ta σ H fun vs H1=>∃ v w,vs=[v,w]∧D.nx ((σ.set i (some v)).set j (some w)) H1
def tAug (i:Nat) (te:TE) (ti:TIp):TS:=fun D σ H=>∃ x,σ[i]?=some (some x)∧te σ H fun y H1=>ti x y H1 fun z H2=>D.nx (σ.set i (some z)) H2
theorem ps_aug {i:Nat} {x:Str} {e:Expr} {te:TE} {op:Operator} {ti:TIp} {pos':Pos} (hN:X.N.Nodup) (hi:X.N[i]?=some x) (hx:Loc X.env.scope x) (he:PE X e te) (ho:PIp X op ti) (hf:X.fn x=true∨X.env.scope.names.lookup x=some .local:=by first | exact .inl rfl | exact .inr rfl | assumption):
    PS X (.AugAssign (.Name x pos') op e pos) (tAug i te ti):=by
  intro pins s σ H D I h
  obtain ⟨v,e1,h⟩:=h
  obtain ⟨m,hn,hl⟩:=I.loc
  have vis:Vis X.env.scope x:=by rcases hx with k | k;exact .inl k;exact .inr (.inl k)
  obtain ⟨u,r,l⟩:=hl i x v hi e1 vis
  refine wpAny_AugAssign_Name ?_
  have go:wpAny (model X.prog X.w) X.A (eval e X.env) (fun w s₂=>wpAny (model X.prog X.w) X.A (inplaceOp op u w) (fun r s₃=>wpAny (model X.prog X.w) X.A (storeName X.env x r) (fun _=>SP X pins D .next) X.xe s₃) X.xe s₂) X.xe s:=by
    refine thn (he pins s σ H _ I h) fun w s1 ⟨y,H1,I1,r1,q1⟩=>?_
    refine thn (ho pins s1 σ H1 v y u w _ I1 r r1 q1) fun z s2 ⟨zv,H2,I2,r2,q2⟩=>?_
    exact store_ok I2 hN hi hx r2 (fun s3 I3=>⟨_,H2,I3,q2⟩) hf
  rcases l with ⟨hk,hm⟩ | ⟨hk,c,hc,hcell⟩
  · exact wpAny_loadName_local I.ok.kind hk hn hm go
  · rcases hk with hk | hk
    · exact wpAny_loadName_cell I.ok.kind hk hc hcell go
    · rcases hx with k | k
      · have:X.env.scope.names.lookup x=some .free:=hk
        rw[k] at this;cases this
      · have:X.env.scope.names.lookup x=some .free:=hk
        rw[k] at this;cases this
def ipI (f:Int→Int→Int):TIp:=fun x y H Q=>∃ i j,x=.int i∧y=.int j∧Q (.int (f i j)) H
theorem ip_add:PIp X .Add (ipI fun i j=>i + j):=by
  intro pins s σ H x y v u Q I r1 r2 h
  obtain ⟨i,j,e1,e2,q⟩:=h
  subst e1;subst e2
  obtain ⟨t,rfl⟩:=r1
  obtain ⟨t',rfl⟩:=r2
  exact iadd_int ⟨.int _,H,I.tok _,⟨_,rfl⟩,q⟩
end
section
variable {X:Cx} {pos:Pos}
def tWhile (c:TT) (tb:TS):TS:=fun D σ H=>∃ W:Nat→St→Hp→Prop,(∃ m,W m σ H)∧∀ m σ H,W m σ H →
  c σ H fun b H1=>if b=true then ∃ N:St→Hp→Prop,(∀ σ' H',N σ' H'→∃ m',m' < m∧W m' σ' H')∧tb { D with nx:=N,ct:=N,bk:=D.nx } σ H1 else D.nx σ H1
theorem ps_while {c:Expr} {body:List Stmt} {tc:TT} {tb:TS} (hp:PassesOwn (model X.prog X.w) X.A X.env X.xe) (hc:PT X c tc) (hb:PSs X body tb):PS X (.While c body [] pos) (tWhile tc tb):=by
  intro pins s σ H D I h
  obtain ⟨W,⟨m0,w0⟩,turn⟩:=h
  refine wpAny_While (codeAny_whileLoop (fun n s'=>∃ σ' H',Inv X pins σ' H' s'∧W n σ' H') ?_ m0 ⟨σ,H,I,w0⟩)
  rintro n s1 ⟨σ1,H1,I1,w1⟩
  refine wpAny_passesOwn hp (thn (hc pins s1 σ1 H1 _ I1 (turn n σ1 H1 w1)) fun b s2 ⟨H2,I2,q2⟩=>?_)
  cases b with
  | true=>
    obtain ⟨N,hN,q2⟩:=q2
    rw[if_pos rfl]
    refine wpAny_passesOwn hp (thn (hb pins s2 σ1 H2 _ I2 q2) fun f s3 q3=>?_)
    cases f with
    | next=>
      obtain ⟨σ3,H3,I3,n3⟩:=q3
      obtain ⟨m',hm,w3⟩:=hN σ3 H3 n3
      exact ⟨m',hm,σ3,H3,I3,w3⟩
    | cont=>
      obtain ⟨σ3,H3,I3,n3⟩:=q3
      obtain ⟨m',hm,w3⟩:=hN σ3 H3 n3
      exact ⟨m',hm,σ3,H3,I3,w3⟩
    | brk=>exact q3
    | ret v=>exact q3
  | false=>
    rw[if_neg Bool.false_ne_true]
    exact wpAny_execs_nil ⟨σ1,H2,I2,q2⟩
end
structure It where
  go:Nat→Hp→Prop
  yld:Nat→Hp→V→Hp→Prop
  stop:Nat→Hp→Prop
def FpOk (X:Cx) (pins:List (Addr×Obj)) (H:Hp) (b:Addr):Prop:=
  H b=none∧b≠X.env.locals∧b∉X.fs∧(b∈X.ex∨X.s₀.heap.objs.size≤b)∧(∀ x c,X.env.cells.lookup x=some c→c≠b)∧∀ p∈X.pn++pins,p.1≠b
theorem Inv.fpOk {X:Cx} {pins:List (Addr×Obj)} {σ:St} {H H':Hp} {s:Shared} {b:Addr} (I:Inv X pins σ H s) (hb:s.heap.objs.size≤b) (hn:H' b=none):FpOk X pins H' b:=by
  refine ⟨hn,Nat.ne_of_gt (Nat.lt_of_lt_of_le I.lt hb),I.nofs hb,.inr (Nat.le_trans I.sz hb),fun x c e z=>?_,fun p hp z=>?_⟩
  · obtain ⟨v,q⟩:=I.cell x c e
    exact absurd (Nat.lt_of_lt_of_le q.lt (by rw[z];exact hb)) (Nat.lt_irrefl _)
  · exact absurd (Nat.lt_of_lt_of_le (Heap.lt_size (I.pin p hp).1) (by rw[z];exact hb)) (Nat.lt_irrefl _)
structure Turn (P:Program) (w:World) (K:PySem.W.Frag) (tg:Expr) (J:It) (fp:List Addr) (it:Addr) (tn:Nat→Heap→Prop):Prop where
  mem:it∈fp
  obj:∀ i h,tn i h→∀ b∈fp,∃ o,h.get? b=some o∧∀ v,o.data≠.cell v
  keep:∀ i h h',tn i h→(∀ b∈fp,∀ o,h.get? b=some o→h'.get? b=some o)→tn i h'
  item:∀ (X:Cx),X.prog=P→X.w=w→X.K=K→X.calm=true→∀ (i:Nat) (pins:List (Addr×Obj)) (s:Shared) (σ:St) (H:Hp) (E:Value→Shared→Prop),Inv X pins σ H s→(∀ b∈fp,FpOk X pins H b)→tn i s.heap→J.go i H →
    wpAny (model P w) X.A (pyNext (.ref it)) (fun r s1=>∃ u,r=some u ∧
      wpAny (model P w) X.A (letOwnedTupleGo tg (.ref it) u) (fun _ s2=>∃ x H',Inv X pins σ H' s2∧RelV x u∧J.yld i H x H'∧tn (i + 1) s2.heap∧∀ b∈fp,H' b=none) E s1) E s
  done:∀ (X:Cx),X.prog=P→X.w=w→X.K=K→X.calm=true→∀ (i:Nat) (pins:List (Addr×Obj)) (s:Shared) (σ:St) (H:Hp) (E:Value→Shared→Prop),Inv X pins σ H s→(∀ b∈fp,FpOk X pins H b)→tn i s.heap→J.stop i H →
    wpAny (model P w) X.A (pyNext (.ref it)) (fun r s1=>r=none∧Inv X pins σ H s1) E s
  self:∀ (A:Around) (i:Nat) (s:Shared) (Q:Value→Shared→Prop) (E:Value→Shared→Prop),tn i s.heap→Q (.ref it) s→wpAny (model P w) A (pyIter (.ref it)) Q E s
abbrev TI:=St→Hp→(It→Hp→Prop)→Prop
def PIE (X:Cx) (pins:List (Addr×Obj)) (σ:St) (tg:Expr) (R:It→Hp→Prop) (itv:Value) (s2:Shared):Prop:=
  ∃ (it:Addr) (fp:List Addr) (tn:Nat→Heap→Prop) (J:It) (H':Hp),itv=.ref it∧Inv X pins σ H' s2∧Turn X.prog X.w X.K tg J fp it tn∧tn 0 s2.heap∧(∀ b∈fp,FpOk X pins H' b)∧R J H'
def PI (X:Cx) (tg iter:Expr) (wi:TI):Prop:=
  ∀ (pins:List (Addr×Obj)) (s:Shared) (σ:St) (H:Hp) (R:It→Hp→Prop),Inv X pins σ H s→wi σ H R →
    wpAny (model X.prog X.w) X.A (eval iter X.env) (fun v s1=>wpAny (model X.prog X.w) X.A (pyIter v) (PIE X pins σ tg R) X.xe s1) X.xe s
theorem go_of {M:Model} {A:Around} {E:Value→Shared→Prop} {s:Shared} {tg:Expr} {it:Addr} {u:Value} {o:Obj} {n:String} {vs:Array Value} {Q:Unit→Shared→Prop} (ho:s.heap.get? it=some o) (hc:o.cls=.type n) (hd:o.data=.fields vs)
    (hn:["enumerate","zip","dict_itemiterator","dict_reverseitemiterator","odict_iterator","itertools.zip_longest","itertools.pairwise"].contains n=false) (hQ:Q () s):wpAny M A (letOwnedTupleGo tg (.ref it) u) Q E s:=by
  unfold letOwnedTupleGo
  cases tg <;> first
    | exact wpAny_pure hQ
    | (cases u <;> first
        | exact wpAny_pure hQ
        | (refine wpAny_bind (wpAny_load ho ?_)
           rw[hc,hd]
           show wpAny M A (if (["enumerate","zip","dict_itemiterator","dict_reverseitemiterator","odict_iterator","itertools.zip_longest","itertools.pairwise"].contains n&&vs[0]? == some (rawInt _))=true then _ else _) Q E s
           rw[if_neg (by intro h;rw[hn,Bool.false_and] at h;cases h)]
           exact wpAny_pure hQ))
def Itl (K:PySem.W.Frag) (a:Addr):It:=
  ⟨fun i H=>∃ xs x,SqL K H a xs∧xs[i]?=some x,fun i H x H'=>H'=H∧∀ xs,SqL K H a xs→xs[i]?=some x,fun i H=>∃ xs,SqL K H a xs∧xs.length≤i⟩
def Itt (K:PySem.W.Frag) (a:Addr):It:=
  ⟨fun i H=>∃ xs x,SqT K H a xs∧xs[i]?=some x,fun i H x H'=>H'=H∧∀ xs,SqT K H a xs→xs[i]?=some x,fun i H=>∃ xs,SqT K H a xs∧xs.length≤i⟩
def Itr (lo:Int) (n:Nat):It:=⟨fun i _=>i < n,fun i H x H'=>H'=H∧x=.int (lo + i),fun i _=>n≤i⟩
theorem turn_list {P:Program} {w:World} {K:PySem.W.Frag} {tg:Expr} (a it:Addr):Turn P w K tg (Itl K a) [it] it (fun i h=>h.IsListIter it a i) where
  mem:=by simp
  obj:=fun i h st b hb=>by
    have e:b=it:=by simpa using hb
    subst e
    obtain ⟨o,e,c,d⟩:=st
    exact ⟨o,e,fun v z=>by rw[d] at z;cases z⟩
  keep:=fun i h h' st k=>st.at fun o e=>k it (by simp) o e
  item:=by
    intro X hP hw hK hc i pins s σ H E I hf st hg
    subst hP hw hK
    obtain ⟨xs,x,hq,hx⟩:=hg
    obtain ⟨its,rv,p,hz⟩:=I.list hq
    obtain ⟨u,hu,ru⟩:=rv.get hx
    obtain ⟨f0,f1,f2,f3,f4,f5⟩:=hf it (by simp)
    refine wpAny_pyNext_list_item st p.isList (x:=u) (by simpa using hu) fun h' st' sb=>?_
    have I1:Inv X pins σ H { s with heap:=h' }:=I.turned (t':=s.toks) (fun b o hb e=>(sb.2 b hb).trans e) f0 f1 f3 f4 f5
    obtain ⟨o,e,c,d⟩:=id st'
    exact ⟨u,rfl,go_of (s:={ s with heap:=h' }) e c d (by decide) ⟨x,H,I1,ru,⟨rfl,fun ys hy=>by rw[I.list_inj hy hq];exact hx⟩,st',fun b hb=>(hf b hb).1⟩⟩
  done:=by
    intro X hP hw hK hc i pins s σ H E I hf st hg
    subst hP hw hK
    obtain ⟨xs,hq,hx⟩:=hg
    obtain ⟨its,rv,p,hz⟩:=I.list hq
    obtain ⟨f0,f1,f2,f3,f4,f5⟩:=hf it (by simp)
    have hl:=rv.length
    exact wpAny_pyNext_list_end (I.ok.hd hc) st p.isList (by simp;omega) fun h' eb=>⟨rfl,I.turned (t':=s.toks) (fun b o hb e=>eb b o hb e) f0 f1 f3 f4 f5⟩
  self:=fun _ _ _ _ _ st h=>wpAny_pyIter_listiter st h
theorem turn_range {P:Program} {w:World} {K:PySem.W.Frag} {tg:Expr} (it:Addr) (lo:Int) (n:Nat):Turn P w K tg (Itr lo n) [it] it (fun i h=>IsRangeIter h it (lo + (i:Nat) * 1) ((n:Int) - (i:Nat)) 1) where
  mem:=by simp
  obj:=fun i h st b hb=>by
    have e:b=it:=by simpa using hb
    subst e
    exact ⟨_,st,fun v z=>by
      have z':Data.fields _=Data.cell v:=z
      cases z'⟩
  keep:=fun i h h' st k=>k it (by simp) _ st
  item:=by
    intro X hP hw hK hc i pins s σ H E I hf st hg
    subst hP hw hK
    obtain ⟨f0,f1,f2,f3,f4,f5⟩:=hf it (by simp)
    have W:=Walks.range (prog:=X.prog) (w:=X.w) (I.ok.hd hc) it lo 1 n
    refine W.item i s _ _ hg st fun v h' tk hv st' kk=>?_
    obtain ⟨t,rfl⟩:=hv
    have I1:Inv X pins σ H { s with heap:=h',toks:=tk }:=I.turned (fun b o hb e=>kk b o (by simpa using hb) e) f0 f1 f3 f4 f5
    refine ⟨_,rfl,go_of (s:={ s with heap:=h',toks:=tk }) (n:="range_iterator") st' rfl rfl (by decide) ⟨.int (lo + i),H,I1,⟨t,?_⟩,⟨rfl,rfl⟩,st',fun b hb=>(hf b hb).1⟩⟩
    rw[Int.mul_one]
  done:=by
    intro X hP hw hK hc i pins s σ H E I hf st hg
    subst hP hw hK
    obtain ⟨f0,f1,f2,f3,f4,f5⟩:=hf it (by simp)
    exact wpAny_pyNext_range_end (I.ok.hd hc) st (by have:n≤i:=hg;omega) fun h' eb=>⟨rfl,I.turned (t':=s.toks) (fun b o hb e=>eb b o hb e) f0 f1 f3 f4 f5⟩
  self:=fun _ _ _ _ _ st h=>wpAny_pyIter_rangeiter st h
end L2
namespace L2
open PySem PySem.Spec PyProof.Rows
section
variable {X:Cx} {tg:Expr}
def iList (K:PySem.W.Frag) (tl:TE):TI:=fun σ H R=>tl σ H fun x H1=>∃ a,x=.ref a∧(∃ xs,SqL K H1 a xs)∧R (Itl K a) H1
def iTup (K:PySem.W.Frag) (tl:TE):TI:=fun σ H R=>tl σ H fun x H1=>∃ a,x=.ref a∧(∃ xs,SqT K H1 a xs)∧R (Itt K a) H1
theorem pi_list {l:Expr} {tl:TE} (hl:PE X l tl):PI X tg l (iList X.K tl):=by
  intro pins s σ H R I h
  refine thn (hl pins s σ H _ I h) fun v s1 ⟨x,H1,I1,r1,q1⟩=>?_
  obtain ⟨a,e,⟨xs,hq⟩,q⟩:=q1
  subst e
  cases r1
  obtain ⟨its,rv,p,hz⟩:=I1.list hq
  refine wpAny_pyIter_list p.isList ?_
  refine ⟨s1.heap.objs.size,[s1.heap.objs.size],_,_,H1,rfl,I1.kept (t':=s1.toks) fun b o e=>Heap.get?_push_of_some _ e,turn_list a _,⟨_,Heap.get?_push_size _ rfl,rfl,rfl⟩,fun b hb=>?_,q⟩
  have e:b=s1.heap.objs.size:=by simpa using hb
  subst e
  exact I1.fpOk (Nat.le_refl _) (I1.hok.fresh (Nat.le_refl _))
theorem range_it {pins:List (Addr×Obj)} {σ:St} {H:Hp} {s:Shared} {R:It→Hp→Prop} {E:Value→Shared→Prop} {lo hi:Int} {t u v:Tok} {tk:Nat} (I:Inv X pins σ H s) (h1:-(2 ^ 62)≤lo) (h2:lo < 2 ^ 62) (h3:-(2 ^ 62)≤hi) (h4:hi < 2 ^ 62)
    (q:R (Itr lo (hi - lo).toNat) H):wpAny (model X.prog X.w) X.A (pyIter (.ref s.heap.objs.size)) (PIE X pins σ tg R) E { s with heap:=s.heap.push { cls:=.type "range",data:=.fields #[.int lo t,.int hi u,.int 1 v] },toks:=tk }:=by
  refine wpAny_pyIter_range (IsRange.new ..) (small_one h1 h2 h3 h4) ?_
  have I1:Inv X pins σ H { s with heap:=s.heap.push { cls:=.type "range",data:=.fields #[.int lo t,.int hi u,.int 1 v] },toks:=tk }:=I.kept fun b o e=>Heap.get?_push_of_some _ e
  refine ⟨(s.heap.push { cls:=.type "range",data:=.fields #[.int lo t,.int hi u,.int 1 v] }).objs.size,[(s.heap.push { cls:=.type "range",data:=.fields #[.int lo t,.int hi u,.int 1 v] }).objs.size],_,_,H,rfl,
    I1.kept (t':=tk) fun b o e=>Heap.get?_push_of_some _ e,turn_range _ lo (hi - lo).toNat,?_,fun b hb=>?_,q⟩
  · have e1:lo + ((0:Nat):Int) * 1=lo:=by simp
    have e2:(((hi - lo).toNat:Nat):Int) - ((0:Nat):Int)=Builtin.Range.rangeSize lo hi 1:=by rw[rangeSize_one];split <;> omega
    show IsRangeIter _ _ (lo + ((0:Nat):Int) * 1) ((((hi - lo).toNat:Nat):Int) - ((0:Nat):Int)) 1
    rw[e1,e2]
    exact Heap.get?_push_size _ rfl
  · have e:b=(s.heap.push { cls:=.type "range",data:=.fields #[.int lo t,.int hi u,.int 1 v] }).objs.size:=by simpa using hb
    subst e
    exact I1.fpOk (Nat.le_refl _) (I1.hok.fresh (Nat.le_refl _))
def iRng1 (ta:TA):TI:=fun σ H R=>ta σ H fun vs H1=>∃ j:Int,vs=[.int j]∧-(2 ^ 62)≤j∧j < 2 ^ 62∧R (Itr 0 j.toNat) H1
def iRng2 (ta:TA):TI:=fun σ H R=>ta σ H fun vs H1=>∃ i j:Int,vs=[.int i,.int j]∧(-(2 ^ 62)≤i∧i < 2 ^ 62∧-(2 ^ 62)≤j∧j < 2 ^ 62)∧R (Itr i (j - i).toNat) H1
theorem pi_range1 {a:Expr} {ta:TA} {p pos:Pos} (hg:Gl X "range") (hm:X.mg "range"=none) (ha:PA X [a] ta) (hs:starEach [a] X.env=[(false,eval a X.env)]:=by rfl):PI X tg (.Call (.Name "range" p) [a] [] pos) (iRng1 ta):=by
  intro pins s σ H R I h
  refine Call_ (ld_blt I hg hm boot_range (PyProof.Rows.callWith_type1 (thn (ha pos pins s σ H _ I h) fun us s1 ⟨vs,H1,I1,r1,q1⟩=>?_) hs rfl))
  obtain ⟨j,e,q1,q2,q⟩:=q1
  subst e
  cases r1 with
  | cons r rr=>
    cases rr
    obtain ⟨t,rfl⟩:=r
    exact call_range_1 (range_it I1 (by omega) (by omega) q1 q2 (by simpa using q))
theorem pi_range2 {a b:Expr} {ta:TA} {p pos:Pos} (hg:Gl X "range") (hm:X.mg "range"=none) (ha:PA X [a,b] ta) (hs:starEach [a,b] X.env=[(false,eval a X.env),(false,eval b X.env)]:=by rfl) (hs2:starEach [b] X.env=[(false,eval b X.env)]:=by rfl):
    PI X tg (.Call (.Name "range" p) [a,b] [] pos) (iRng2 ta):=by
  intro pins s σ H R I h
  refine Call_ (ld_blt I hg hm boot_range (PyProof.Rows.callWith_type1 (thn (ha pos pins s σ H _ I h) fun us s1 ⟨vs,H1,I1,r1,q1⟩=>?_) (by rw[hs,hs2]) (by rw[hs2];rfl)))
  obtain ⟨i,j,e,⟨q1,q2,q3,q4⟩,q⟩:=q1
  subst e
  cases r1 with
  | cons r rr=>
    cases rr with
    | cons r' rr=>
      cases rr
      obtain ⟨t,rfl⟩:=r
      obtain ⟨t',rfl⟩:=r'
      exact call_range_2 (range_it I1 q1 q2 q3 q4 q)
def tFor (wi:TI) (g:TG) (tb:TS):TS:=fun D σ H=>wi σ H fun J H1=>∃ W:Nat→Nat→St→Hp→Prop,(∃ m,W 0 m σ H1)∧∀ i m σ H,W i m σ H →
  (J.stop i H∧D.nx σ H)∨(J.go i H∧∃ N:St→Hp→Prop,(∀ σ' H',N σ' H'→∃ m',m' < m∧W (i + 1) m' σ' H')∧∀ x H',J.yld i H x H'→g x σ H' fun σ2 H2=>tb { D with nx:=N,ct:=N,bk:=D.nx } σ2 H2)
def pinsAt (fp:List Addr) (h:Heap):List (Addr×Obj):=fp.filterMap fun b=>(h.get? b).map fun o=>(b,o)
theorem mem_pinsAt {fp:List Addr} {h:Heap} {b:Addr} {o:Obj} (hb:b∈fp) (e:h.get? b=some o):(b,o)∈pinsAt fp h:=List.mem_filterMap.mpr ⟨b,hb,by rw[e];rfl⟩
theorem of_pinsAt {fp:List Addr} {h:Heap} {p:Addr×Obj} (hp:p∈pinsAt fp h):p.1∈fp∧h.get? p.1=some p.2:=by
  obtain ⟨b,hb,e⟩:=List.mem_filterMap.mp hp
  cases q:h.get? b with
  | none=>rw[q] at e;cases e
  | some o=>
    rw[q] at e
    have e':(b,o)=p:=Option.some.inj e
    subst e'
    exact ⟨hb,q⟩
theorem Inv.pinned {pins:List (Addr×Obj)} {σ:St} {H:Hp} {s:Shared} {fp:List Addr} (I:Inv X pins σ H s) (hf:∀ b∈fp,FpOk X pins H b) (ho:∀ b∈fp,∃ o,s.heap.get? b=some o∧∀ v,o.data≠.cell v):Inv X (pins++pinsAt fp s.heap) σ H s:=
  I.pins_of fun p hp=>(List.mem_append.mp hp).elim (fun z=>I.pin p (List.mem_append_right _ z)) fun z=>by
    obtain ⟨hb,e⟩:=of_pinsAt z
    obtain ⟨f0,f1,f2,_⟩:=hf p.1 hb
    obtain ⟨o,e',d⟩:=ho p.1 hb
    rw[e] at e';cases e'
    exact ⟨e,f0,f1,f2,d⟩
theorem Inv.unpinned {pins pl:List (Addr×Obj)} {σ:St} {H:Hp} {s:Shared} (I:Inv X (pins++pl) σ H s):Inv X pins σ H s:=I.pins_of fun p hp=>I.pin p (List.mem_append_right _ (List.mem_append_left _ hp))
theorem ps_for {iter:Expr} {body:List Stmt} {wi:TI} {g:TG} {tb:TS} {pos:Pos} (hp:PassesOwn (model X.prog X.w) X.A X.env X.xe) (hc:X.calm=true) (hi:PI X tg iter wi) (hg:PG X tg g) (hb:PSs X body tb)
    (hs:∀ x,foldedSetIterable iter X.env x=pure x:=by intro _;rfl):PS X (.For tg iter body [] pos) (tFor wi g tb):=by
  intro pins s σ H D I h
  refine wpAny_For (thn (hi pins s σ H _ I h) fun v s1 h1=>thn h1 fun itv s2 h2=>?_) hs
  obtain ⟨it,fp,tn,J,H2,e,I2,T,st2,f2,W,⟨m0,w0⟩,turn⟩:=h2
  subst e
  have stat:∀ {H':Hp},(∀ b∈fp,H' b=none)→∀ b∈fp,FpOk X pins H' b:=fun hn b hb=>⟨hn b hb,(f2 b hb).2⟩
  refine codeAny_forLoop_any (fun n s'=>∃ i σ' H',Inv X pins σ' H' s'∧tn i s'.heap∧(∀ b∈fp,H' b=none)∧W i n σ' H') ?_ m0 ⟨0,σ,H2,I2,st2,fun b hb=>(f2 b hb).1,w0⟩
  rintro n s3 ⟨i,σ3,H3,I3,st3,fr3,w3⟩
  rcases turn i n σ3 H3 w3 with ⟨stop,qn⟩ | ⟨go,N,hN,step⟩
  · refine wpAny_passesOwn hp (thn (T.done X rfl rfl rfl hc i pins s3 σ3 H3 X.xe I3 (stat fr3) st3 stop) fun r s4 ⟨hr,I4⟩=>?_)
    subst hr
    exact wpAny_execs_nil ⟨σ3,H3,I4,qn⟩
  · refine wpAny_passesOwn hp (thn (T.item X rfl rfl rfl hc i pins s3 σ3 H3 X.xe I3 (stat fr3) st3 go) fun r s4 ⟨u,hr,h4⟩=>?_)
    subst hr
    refine wpAny_passesOwn hp (thn h4 fun _ s5 ⟨x,H5,I5,r5,y5,st5,fr5⟩=>?_)
    have I5':=I5.pinned (stat fr5) (T.obj _ _ st5)
    refine wpAny_passesOwn hp (thn (hg _ s5 σ3 H5 x u _ I5' r5 (step x H5 y5)) fun _ s6 ⟨σ6,H6,I6,q6⟩=>?_)
    refine wpAny_passesOwn hp (thn (hb _ s6 σ6 H6 _ I6 q6) fun f s7 q7=>?_)
    have again:∀ {σ7:St} {H7:Hp},Inv X (pins++pinsAt fp s5.heap) σ7 H7 s7→N σ7 H7→∃ m,m < n∧∃ i σ' H',Inv X pins σ' H' s7∧tn i s7.heap∧(∀ b∈fp,H' b=none)∧W i m σ' H':=fun {σ7 H7} I7 n7=>by
      obtain ⟨m',hm,w7⟩:=hN σ7 H7 n7
      refine ⟨m',hm,i + 1,σ7,H7,I7.unpinned,T.keep _ _ _ st5 fun b hb o e=>(I7.pin (b,o) (List.mem_append_right _ (List.mem_append_right _ (mem_pinsAt hb e)))).1,fun b hb=>?_,w7⟩
      obtain ⟨o,e,d⟩:=T.obj _ _ st5 b hb
      exact (I7.pin (b,o) (List.mem_append_right _ (List.mem_append_right _ (mem_pinsAt hb e)))).2.1
    cases f with
    | next=>obtain ⟨σ7,H7,I7,n7⟩:=q7;exact again I7 n7
    | cont=>obtain ⟨σ7,H7,I7,n7⟩:=q7;exact again I7 n7
    | brk=>obtain ⟨σ7,H7,I7,q7⟩:=q7;exact ⟨σ7,H7,I7.unpinned,q7⟩
    | ret v=>obtain ⟨x7,σ7,H7,I7,r7,q7⟩:=q7;exact ⟨x7,σ7,H7,I7.unpinned,r7,q7⟩
end
theorem for_list {K:PySem.W.Frag} {a:Addr} {xs:List V} {g:TG} {tb:TS} {D:Ends} {σ:St} {H:Hp} (Pv:Nat→St→Hp→Prop) (h0:Pv 0 σ H) (hl:∀ i σ H,i≤xs.length→Pv i σ H→SqL K H a xs)
    (hs:∀ i x σ H,xs[i]?=some x→Pv i σ H→g x σ H fun σ2 H2=>tb { D with nx:=Pv (i + 1),ct:=Pv (i + 1),bk:=D.nx } σ2 H2) (hd:∀ σ H,Pv xs.length σ H→D.nx σ H):
    ∃ W:Nat→Nat→St→Hp→Prop,(∃ m,W 0 m σ H)∧∀ i m σ H,W i m σ H →
      ((Itl K a).stop i H∧D.nx σ H)∨((Itl K a).go i H∧∃ N:St→Hp→Prop,(∀ σ' H',N σ' H'→∃ m',m' < m∧W (i + 1) m' σ' H')∧∀ x H',(Itl K a).yld i H x H'→g x σ H' fun σ2 H2=>tb { D with nx:=N,ct:=N,bk:=D.nx } σ2 H2):=by
  refine ⟨fun i m σ H=>m=xs.length - i∧i≤xs.length∧Pv i σ H,⟨xs.length,by simp,Nat.zero_le _,h0⟩,?_⟩
  rintro i m σ H ⟨rfl,hi,p⟩
  have q:=hl i σ H hi p
  by_cases hlt:i < xs.length
  · refine .inr ⟨⟨xs,xs[i],q,by simp [hlt]⟩,Pv (i + 1),fun σ' H' p'=>⟨xs.length - (i + 1),by omega,rfl,hlt,p'⟩,fun x H' y=>?_⟩
    obtain ⟨e,y⟩:=y
    subst e
    exact hs i x σ _ (y xs q) p
  · have e:i=xs.length:=by omega
    subst e
    exact .inl ⟨⟨xs,q,Nat.le_refl _⟩,hd σ H p⟩
theorem for_range {lo:Int} {n:Nat} {g:TG} {tb:TS} {D:Ends} {σ:St} {H:Hp} (Pv:Nat→St→Hp→Prop) (h0:Pv 0 σ H)
    (hs:∀ i σ H,i < n→Pv i σ H→g (.int (lo + i)) σ H fun σ2 H2=>tb { D with nx:=Pv (i + 1),ct:=Pv (i + 1),bk:=D.nx } σ2 H2) (hd:∀ σ H,Pv n σ H→D.nx σ H):
    ∃ W:Nat→Nat→St→Hp→Prop,(∃ m,W 0 m σ H)∧∀ i m σ H,W i m σ H →
      ((Itr lo n).stop i H∧D.nx σ H)∨((Itr lo n).go i H∧∃ N:St→Hp→Prop,(∀ σ' H',N σ' H'→∃ m',m' < m∧W (i + 1) m' σ' H')∧∀ x H',(Itr lo n).yld i H x H'→g x σ H' fun σ2 H2=>tb { D with nx:=N,ct:=N,bk:=D.nx } σ2 H2):=by
  refine ⟨fun i m σ H=>m=n - i∧i≤n∧Pv i σ H,⟨n,by simp,Nat.zero_le _,h0⟩,?_⟩
  rintro i m σ H ⟨rfl,hi,p⟩
  by_cases hlt:i < n
  · refine .inr ⟨hlt,Pv (i + 1),fun σ' H' p'=>⟨n - (i + 1),by omega,rfl,hlt,p'⟩,fun x H' y=>?_⟩
    obtain ⟨e,y⟩:=y
    subst e y
    exact hs i σ _ hlt p
  · have e:i=n:=by omega
    subst e
    exact .inl ⟨Nat.le_refl _,hd σ H p⟩
end L2
namespace L2
open PySem PySem.Spec PyProof.Rows
abbrev R2:=V→V→Hp→VK→Prop
def OpR (X:Cx) (f:Value→Value→Sem Value) (r:R2):Prop:=
  ∀ (pins:List (Addr×Obj)) (s:Shared) (σ:St) (H:Hp) (x y:V) (v u:Value) (Q:VK),Inv X pins σ H s→RelV x v→RelV y u→r x y H Q →
    wpAny (model X.prog X.w) X.A (f v u) (EP X pins σ Q) X.xe s
def UnR (X:Cx) (f:Value→Sem Value) (r:V→Hp→VK→Prop):Prop:=
  ∀ (pins:List (Addr×Obj)) (s:Shared) (σ:St) (H:Hp) (x:V) (v:Value) (Q:VK),Inv X pins σ H s→RelV x v→r x H Q →
    wpAny (model X.prog X.w) X.A (f v) (EP X pins σ Q) X.xe s
def CallR (X:Cx) (f:Value) (r:List V→Hp→VK→Prop):Prop:=
  ∀ (pins:List (Addr×Obj)) (s:Shared) (σ:St) (H:Hp) (xs:List V) (us:List Value) (Q:VK),Inv X pins σ H s→Vals xs us→r xs H Q →
    wpAny (model X.prog X.w) X.A (call f us) (EP X pins σ Q) X.xe s
def TruR (X:Cx) (r:V→Hp→(Bool→Hp→Prop)→Prop):Prop:=
  ∀ (pins:List (Addr×Obj)) (s:Shared) (σ:St) (H:Hp) (x:V) (v:Value) (Q:Bool→Hp→Prop),Inv X pins σ H s→RelV x v→r x H Q →
    wpAny (model X.prog X.w) X.A (truthy v) (TP X pins σ Q) X.xe s
def tOp (r:R2) (ta tb:TE):TE:=fun σ H Q=>ta σ H fun x H1=>tb σ H1 fun y H2=>r x y H2 Q
def tUn (r:V→Hp→VK→Prop) (ta:TE):TE:=fun σ H Q=>ta σ H fun x H1=>r x H1 Q
def rI (C:Int→Int→Prop) (g:Int→Int→V):R2:=fun x y H Q=>∃ i j,x=.int i∧y=.int j∧C i j∧Q (g i j) H
def rI0 (g:Int→Int→V):R2:=fun x y H Q=>∃ i j,x=.int i∧y=.int j∧Q (g i j) H
def rU (g:Int→V):V→Hp→VK→Prop:=fun x H Q=>∃ i,x=.int i∧Q (g i) H
section
variable {X:Cx} {a b c:Expr} {ta tb tc:TE} {pos:Pos}
theorem binT (ha:PE X a ta) (hb:PE X b tb) {pins:List (Addr×Obj)} {s:Shared} {σ:St} {H:Hp} {R:V→V→Hp→Prop} (I:Inv X pins σ H s)
    (h:ta σ H fun x H1=>tb σ H1 fun y H2=>R x y H2) {Q:Value→Shared→Prop} {f:Value→Value→Sem Value}
    (hf:∀ v u s2 x y H2,Inv X pins σ H2 s2→RelV x v→RelV y u→R x y H2→wpAny (model X.prog X.w) X.A (f v u) Q X.xe s2):
    wpAny (model X.prog X.w) X.A (eval a X.env) (fun v s₁=>wpAny (model X.prog X.w) X.A (eval b X.env) (fun u s₂=>wpAny (model X.prog X.w) X.A (f v u) Q X.xe s₂) X.xe s₁) X.xe s:=by
  refine thn (ha pins s σ H _ I h) fun v s1 ⟨x,H1,I1,r1,q1⟩=>?_
  refine thn (hb pins s1 σ H1 _ I1 q1) fun u s2 ⟨y,H2,I2,r2,q2⟩=>?_
  exact hf v u s2 x y H2 I2 r1 r2 q2
theorem pe_op {op:Operator} {r:R2} (ho:OpR X (binaryOp op) r) (ha:PE X a ta) (hb:PE X b tb):PE X (.BinOp a op b pos) (tOp r ta tb):=by
  intro pins s σ H Q I h
  exact wpAny_BinOp (binT ha hb I h fun v u s2 x y H2 I2 rx ry q=>ho pins s2 σ H2 x y v u Q I2 rx ry q)
theorem pe_un {op:UnaryOp} {r:V→Hp→VK→Prop} (ho:UnR X (unaryOp op) r) (ha:PE X a ta):PE X (.UnaryOp op a pos) (tUn r ta):=by
  intro pins s σ H Q I h
  exact UnaryOp_ (thn (ha pins s σ H _ I h) fun v s1 ⟨x,H1,I1,r1,q1⟩=>ho pins s1 σ H1 x v Q I1 r1 q1)
theorem opI {f:Value→Value→Sem Value} {C:Int→Int→Prop} {g:Int→Int→Int}
    (rule:∀ (i j:Int) (t u:Tok) (s:Shared) (Q:Value→Shared→Prop) (E:Value→Shared→Prop),C i j→Q (.int (g i j) s.toks) { s with toks:=s.toks + 1 }→wpAny (model X.prog X.w) X.A (f (.int i t) (.int j u)) Q E s):
    OpR X f (rI C fun i j=>.int (g i j)):=by
  intro pins s σ H x y v u Q I rx ry h
  obtain ⟨i,j,rfl,rfl,hc,q⟩:=h
  obtain ⟨t,rfl⟩:=rx
  obtain ⟨t',rfl⟩:=ry
  exact rule i j t t' s _ _ hc ⟨.int (g i j),H,I.tok _,⟨_,rfl⟩,q⟩
theorem opI0 {f:Value→Value→Sem Value} {g:Int→Int→Int}
    (rule:∀ (i j:Int) (t u:Tok) (s:Shared) (Q:Value→Shared→Prop) (E:Value→Shared→Prop),Q (.int (g i j) s.toks) { s with toks:=s.toks + 1 }→wpAny (model X.prog X.w) X.A (f (.int i t) (.int j u)) Q E s):
    OpR X f (rI0 fun i j=>.int (g i j)):=by
  intro pins s σ H x y v u Q I rx ry h
  obtain ⟨i,j,rfl,rfl,q⟩:=h
  obtain ⟨t,rfl⟩:=rx
  obtain ⟨t',rfl⟩:=ry
  exact rule i j t t' s _ _ ⟨.int (g i j),H,I.tok _,⟨_,rfl⟩,q⟩
theorem opB0 {f:Value→Value→Sem Value} {g:Int→Int→Bool}
    (rule:∀ (i j:Int) (t u:Tok) (s:Shared) (Q:Value→Shared→Prop) (E:Value→Shared→Prop),Q (.bool (g i j)) s→wpAny (model X.prog X.w) X.A (f (.int i t) (.int j u)) Q E s):
    OpR X f (rI0 fun i j=>.bl (g i j)):=by
  intro pins s σ H x y v u Q I rx ry h
  obtain ⟨i,j,rfl,rfl,q⟩:=h
  obtain ⟨t,rfl⟩:=rx
  obtain ⟨t',rfl⟩:=ry
  exact rule i j t t' s _ _ ⟨.bl (g i j),H,I,rfl,q⟩
def CDiv (i j:Int):Prop:=0 < j∧j < 1073741824
def CPow (i j:Int):Prop:=0≤j∧j≤1000000∧i.natAbs < 2 ^ 64
def CMul (i j:Int):Prop:=(-(2 ^ 64) < i∧i < 2 ^ 64)∨(-(2 ^ 64) < j∧j < 2 ^ 64)
theorem CMul.ok {i j:Int} (h:CMul i j):IntMulOk i j:=by
  rcases h with ⟨h1,h2⟩ | ⟨h1,h2⟩
  · exact .of_left (intBits_le_64 h1 h2)
  · exact .of_right (intBits_le_64 h1 h2)
theorem op_add:OpR X (binaryOp .Add) (rI0 fun i j=>.int (i + j)):=opI0 fun _ _ _ _ _ _ _ q=>add_int q
theorem op_sub:OpR X (binaryOp .Sub) (rI0 fun i j=>.int (i - j)):=opI0 fun _ _ _ _ _ _ _ q=>sub_int q
theorem op_mul:OpR X (binaryOp .Mult) (rI CMul fun i j=>.int (i * j)):=opI fun _ _ _ _ _ _ _ hc q=>mul_int q hc.ok
theorem op_fdiv:OpR X (binaryOp .FloorDiv) (rI CDiv fun i j=>.int (i / j)):=opI fun i j _ _ _ _ _ hc q=>by
  have h1:(0:Int) < j:=hc.1
  have h2:j < 1073741824:=hc.2
  exact floordiv_int (by omega) (by rw[Int.fdiv_eq_ediv_of_nonneg i (by omega)];exact q) (.inl (PyProof.noPylong_small (by omega)))
theorem op_mod:OpR X (binaryOp .Mod) (rI (fun _ j=>0 < j) fun i j=>.int (i % j)):=opI fun i j _ _ _ _ _ hc q=>by
  have h1:(0:Int) < j:=hc
  exact mod_int' (by omega) (by rw[Int.fmod_eq_emod_of_nonneg i (by omega)];exact q)
theorem op_pow:OpR X (binaryOp .Pow) (rI CPow fun i j=>.int (i ^ j.toNat)):=opI fun _ _ _ _ _ _ _ hc q=>pow_int_small hc.1 hc.2.1 hc.2.2 q
theorem unI {f:Value→Sem Value} {g:Int→Int}
    (rule:∀ (i:Int) (t:Tok) (s:Shared) (Q:Value→Shared→Prop) (E:Value→Shared→Prop),Q (.int (g i) s.toks) { s with toks:=s.toks + 1 }→wpAny (model X.prog X.w) X.A (f (.int i t)) Q E s):
    UnR X f (rU fun i=>.int (g i)):=by
  intro pins s σ H x v Q I rx h
  obtain ⟨i,rfl,q⟩:=h
  obtain ⟨t,rfl⟩:=rx
  exact rule i t s _ _ ⟨.int (g i),H,I.tok _,⟨_,rfl⟩,q⟩
theorem un_neg:UnR X (unaryOp .USub) (rU fun i=>.int (-i)):=unI fun _ _ _ _ _ q=>neg_int q
end
def scal:V→V→Bool
  | .non,.non=>true | .non,.int _=>true | .int _,.non=>true | .non,.bl _=>true | .bl _,.non=>true | .non,.str _=>true | .str _,.non=>true
  | .int _,.int _=>true | .bl _,.bl _=>true | .str _,.str _=>true | .byt _,.byt _=>true
  | .int _,.str _=>true | .str _,.int _=>true | .bl _,.str _=>true | .str _,.bl _=>true
  | _,_=>false
def rEq:R2:=fun x y H Q=>scal x y=true∧Q (.bl (decide (x=y))) H
def rNe:R2:=fun x y H Q=>scal x y=true∧Q (.bl (!decide (x=y))) H
theorem dec_int {i j:Int}:decide (V.int i=V.int j)=(i == j):=by
  rw[Bool.eq_iff_iff]
  simp
theorem dec_bl {i j:Bool}:decide (V.bl i=V.bl j)=(i == j):=by
  rw[Bool.eq_iff_iff]
  simp
theorem dec_str {i j:Str}:decide (V.str i=V.str j)=(i == j):=by
  rw[Bool.eq_iff_iff]
  simp
theorem dec_byt {i j:Array UInt8}:decide (V.byt i=V.byt j)=(i.toList == j.toList):=by
  rw[Bool.eq_iff_iff]
  cases i
  cases j
  simp
section
variable {X:Cx} {a b c:Expr} {ta tb tc:TE} {pos:Pos}
theorem fin_bl {pins:List (Addr×Obj)} {σ:St} {H:Hp} {s:Shared} {Q:VK} {k k':Bool} (I:Inv X pins σ H s) (q:Q (.bl k) H) (e:k=k'):EP X pins σ Q (.bool k') s:=by
  subst e
  exact ⟨.bl k,H,I,rfl,q⟩
theorem op_eq:OpR X (compareOp .Eq) rEq:=by
  intro pins s σ H x y v u Q I rx ry h
  obtain ⟨hs,q⟩:=h
  cases x with
  | non=>
    cases rx
    cases y with
    | non=>cases ry;exact PySem.EqNone.eq_none_none (fin_bl I q (by simp))
    | bl j=>cases ry;exact PySem.EqNone.eq_none_bool (fin_bl I q (by simp))
    | int j=>obtain ⟨t',rfl⟩:=ry;exact PySem.EqNone.eq_none_int (fin_bl I q (by simp))
    | str j=>obtain ⟨t',rfl⟩:=ry;exact PySem.EqNone.eq_none_str (fin_bl I q (by simp))
    | _=>exact absurd (show false=true from hs) Bool.false_ne_true
  | bl i=>
    cases rx
    cases y with
    | non=>cases ry;exact PySem.EqNone.eq_bool_none (fin_bl I q (by simp))
    | bl j=>cases ry;exact eq_bool (fin_bl I q dec_bl)
    | str j=>obtain ⟨t',rfl⟩:=ry;exact PySem.EqMixed.eq_bool_str (fin_bl I q (by simp))
    | _=>exact absurd (show false=true from hs) Bool.false_ne_true
  | int i=>
    obtain ⟨t,rfl⟩:=rx
    cases y with
    | non=>cases ry;exact PySem.EqNone.eq_int_none (fin_bl I q (by simp))
    | int j=>obtain ⟨t',rfl⟩:=ry;exact eq_int (fin_bl I q dec_int)
    | str j=>obtain ⟨t',rfl⟩:=ry;exact PySem.EqMixed.eq_int_str (fin_bl I q (by simp))
    | _=>exact absurd (show false=true from hs) Bool.false_ne_true
  | str i=>
    obtain ⟨t,rfl⟩:=rx
    cases y with
    | non=>cases ry;exact PySem.EqNone.eq_str_none (fin_bl I q (by simp))
    | bl j=>cases ry;exact PySem.EqMixed.eq_str_bool (fin_bl I q (by simp))
    | int j=>obtain ⟨t',rfl⟩:=ry;exact PySem.EqMixed.eq_str_int (fin_bl I q (by simp))
    | str j=>obtain ⟨t',rfl⟩:=ry;exact eq_str (fin_bl I q dec_str)
    | _=>exact absurd (show false=true from hs) Bool.false_ne_true
  | byt i=>
    obtain ⟨t,rfl⟩:=rx
    cases y with
    | byt j=>obtain ⟨t',rfl⟩:=ry;exact PySem.W.eq_bytes (fin_bl I q dec_byt)
    | _=>exact absurd (show false=true from hs) Bool.false_ne_true
  | _=>cases y <;> exact absurd (show false=true from hs) Bool.false_ne_true
theorem op_ne:OpR X (compareOp .NotEq) rNe:=by
  intro pins s σ H x y v u Q I rx ry h
  obtain ⟨hs,q⟩:=h
  cases x with
  | non=>
    cases rx
    cases y with
    | non=>cases ry;exact PySem.EqNone.ne_none_none (fin_bl I q (by simp))
    | bl j=>cases ry;exact PySem.EqNone.ne_none_bool (fin_bl I q (by simp))
    | int j=>obtain ⟨t',rfl⟩:=ry;exact PySem.EqNone.ne_none_int (fin_bl I q (by simp))
    | str j=>obtain ⟨t',rfl⟩:=ry;exact PySem.EqNone.ne_none_str (fin_bl I q (by simp))
    | _=>exact absurd (show false=true from hs) Bool.false_ne_true
  | bl i=>
    cases rx
    cases y with
    | non=>cases ry;exact PySem.EqNone.ne_bool_none (fin_bl I q (by simp))
    | bl j=>cases ry;exact ne_bool (fin_bl I q (congrArg not dec_bl))
    | str j=>obtain ⟨t',rfl⟩:=ry;exact PySem.EqMixed.ne_bool_str (fin_bl I q (by simp))
    | _=>exact absurd (show false=true from hs) Bool.false_ne_true
  | int i=>
    obtain ⟨t,rfl⟩:=rx
    cases y with
    | non=>cases ry;exact PySem.EqNone.ne_int_none (fin_bl I q (by simp))
    | int j=>obtain ⟨t',rfl⟩:=ry;exact ne_int (fin_bl I q (congrArg not dec_int))
    | str j=>obtain ⟨t',rfl⟩:=ry;exact PySem.EqMixed.ne_int_str (fin_bl I q (by simp))
    | _=>exact absurd (show false=true from hs) Bool.false_ne_true
  | str i=>
    obtain ⟨t,rfl⟩:=rx
    cases y with
    | non=>cases ry;exact PySem.EqNone.ne_str_none (fin_bl I q (by simp))
    | bl j=>cases ry;exact PySem.EqMixed.ne_str_bool (fin_bl I q (by simp))
    | int j=>obtain ⟨t',rfl⟩:=ry;exact PySem.EqMixed.ne_str_int (fin_bl I q (by simp))
    | str j=>obtain ⟨t',rfl⟩:=ry;exact ne_str (fin_bl I q (congrArg not dec_str))
    | _=>exact absurd (show false=true from hs) Bool.false_ne_true
  | byt i=>
    obtain ⟨t,rfl⟩:=rx
    cases y with
    | byt j=>obtain ⟨t',rfl⟩:=ry;exact PySem.W.ne_bytes (fin_bl I q (congrArg not dec_byt))
    | _=>exact absurd (show false=true from hs) Bool.false_ne_true
  | _=>cases y <;> exact absurd (show false=true from hs) Bool.false_ne_true
theorem op_lt:OpR X (compareOp .Lt) (rI0 fun i j=>.bl (decide (i < j))):=opB0 fun _ _ _ _ _ _ _ q=>lt_int q
theorem op_le:OpR X (compareOp .LtE) (rI0 fun i j=>.bl (decide (i≤j))):=opB0 fun _ _ _ _ _ _ _ q=>le_int q
theorem op_gt:OpR X (compareOp .Gt) (rI0 fun i j=>.bl (decide (j < i))):=opB0 fun _ _ _ _ _ _ _ q=>gt_int q
theorem op_in_str:OpR X (compareOp .In) (fun x y H Q=>∃ i j,x=.str i∧y=.str j∧Q (.bl (!(Builtin.Str.occurrences j i 0 j.length 1).isEmpty)) H):=by
  intro pins s σ H x y v u Q I rx ry h
  obtain ⟨i,j,rfl,rfl,q⟩:=h
  obtain ⟨t,rfl⟩:=rx
  obtain ⟨t',rfl⟩:=ry
  exact in_str (fin_bl I q rfl)
theorem op_notN:OpR X (compareOp .IsNot) (fun x y H Q=>y=.non∧Q (.bl (!decide (x=.non))) H):=by
  intro pins s σ H x y v u Q I rx ry h
  obtain ⟨rfl,q⟩:=h
  cases ry
  refine isnot_none_gen (fin_bl I q ?_)
  cases x <;> first
    | (cases rx;rfl)
    | (obtain ⟨t,rfl⟩:=rx;rfl)
theorem OpR.or {f:Value→Value→Sem Value} {r r':R2} (h:OpR X f r) (h':OpR X f r'):OpR X f (fun x y H Q=>r x y H Q∨r' x y H Q):=by
  intro pins s σ H x y v u Q I rx ry q
  rcases q with q | q
  · exact h pins s σ H x y v u Q I rx ry q
  · exact h' pins s σ H x y v u Q I rx ry q
theorem nomark (b:Expr) {op:CmpOp} (h:op≠.In:=by decide) (h2:op≠.NotIn:=by decide):behindInMarks op b=false:=by
  have e1:(op == CmpOp.In)=false:=by cases op <;> first | rfl | exact absurd rfl h
  have e2:(op == CmpOp.NotIn)=false:=by cases op <;> first | rfl | exact absurd rfl h2
  cases b <;> simp [behindInMarks,e1,e2]
theorem pe_cmpR {op:CmpOp} {r:R2} (ho:OpR X (compareOp op) r) (ha:PE X a ta) (hb:PE X b tb) (hm:behindInMarks op b=false):PE X (.Compare a [op] [b] pos) (tOp r ta tb):=by
  intro pins s σ H Q I h
  exact wpAny_Compare1 (binT ha hb I h fun v u s2 x y H2 I2 rx ry q=>ho pins s2 σ H2 x y v u Q I2 rx ry q) hm
def tTest (t:TE):TT:=fun σ H Q=>t σ H fun x H'=>∃ k,x=.bl k∧Q k H'
theorem pt_cmpR {op:CmpOp} {r:R2} (ho:OpR X (compareOp op) r) (ha:PE X a ta) (hb:PE X b tb) (hm:behindInMarks op b=false):PT X (.Compare a [op] [b] pos) (tTest (tOp r ta tb)):=by
  intro pins s σ H Q I h
  refine wpAny_isTrue_Compare1 (thn (ha pins s σ H _ I h) fun v s1 ⟨x,H1,I1,r1,q1⟩=>thn (hb pins s1 σ H1 _ I1 q1) fun u s2 ⟨y,H2,I2,r2,q2⟩=>
    thn (ho pins s2 σ H2 x y v u _ I2 r1 r2 q2) fun c s3 ⟨z,H3,I3,r3,k,e,q3⟩=>?_) hm
  subst e
  cases r3
  exact wpAny_truthy_bool ⟨H3,I3,q3⟩
def tChain (r r':R2) (ta tb tc:TE):TE:=fun σ H Q=>ta σ H fun x H1=>tb σ H1 fun y H2=>r x y H2 fun z H3=>∃ k,z=.bl k ∧
  (if k=true then tc σ H3 fun w' H4=>r' y w' H4 Q else Q (.bl false) H3)
def TruV (K:PySem.W.Frag) (x:V) (H:Hp) (k:Bool):Prop:=
  match x with
  | .non=>k=false
  | .bl b=>k=b
  | .int i=>k=(i != 0)
  | .str y=>y.length≤sizeLine∧k=((y.length:Int) != 0)
  | .byt y=>y.size≤sizeLine∧k=((y.size:Int) != 0)
  | .ref p=>(∃ xs,SqL K H p xs∧k=!xs.isEmpty)∨(∃ xs,SqT K H p xs∧k=!xs.isEmpty)∨∃ kvs,H p=some (.dK kvs)∧k=!kvs.isEmpty
  | _=>False
theorem isEmpty_kv {κ:Type} {kvs:List (κ×V)} {vs:List (κ×Value)} (r:KV kvs vs):(!vs.isEmpty)=!kvs.isEmpty:=by
  cases r <;> rfl
theorem isEmpty_of {xs:List V} {its:List Value} (r:Vals xs its):(!its.toArray.isEmpty)=!xs.isEmpty:=by
  cases r <;> simp
theorem line63:(sizeLine:Nat) < 2 ^ 63:=by rw[sizeLine_eq];decide
theorem tru_ok:TruR X (fun x H Q=>∃ k,TruV X.K x H k∧Q k H):=by
  intro pins s σ H x v Q I rx h
  obtain ⟨k,e,q⟩:=h
  have hl:=line63
  have hs:sizeLine=16777216:=sizeLine_eq
  cases x with
  | non=>
    cases rx
    have e':k=false:=e
    subst e'
    exact truthy_none ⟨H,I,q⟩
  | bl b=>
    cases rx
    have e':k=b:=e
    subst e'
    exact wpAny_truthy_bool ⟨H,I,q⟩
  | int i=>
    obtain ⟨t,rfl⟩:=rx
    have e':k=(i != 0):=e
    subst e'
    exact PySem.P.truthy_int ⟨H,I,q⟩
  | str y=>
    obtain ⟨t,rfl⟩:=rx
    obtain ⟨hy,e'⟩:y.length≤sizeLine∧k=((y.length:Int) != 0):=e
    subst e'
    exact PySem.P.truthy_str (by omega) ⟨H,I.tok _,q⟩
  | byt y=>
    obtain ⟨t,rfl⟩:=rx
    obtain ⟨hy,e'⟩:y.size≤sizeLine∧k=((y.size:Int) != 0):=e
    subst e'
    exact PySem.W.truthy_bytes (by omega) ⟨H,I.tok _,q⟩
  | ref p=>
    cases rx
    have e':(∃ xs,SqL X.K H p xs∧k=!xs.isEmpty)∨(∃ xs,SqT X.K H p xs∧k=!xs.isEmpty)∨∃ kvs,H p=some (.dK kvs)∧k=!kvs.isEmpty:=e
    rcases e' with ⟨xs,hx,e'⟩ | ⟨xs,hx,e'⟩ | ⟨kvs,hx,e'⟩
    · subst e'
      obtain ⟨its,r,pl,hz⟩:=I.list hx
      have hlen:=r.length
      exact wpAny_truthy_list pl.isList (by simp only[List.size_toArray];omega) ⟨H,I.tok _,by rw[isEmpty_of r];exact q⟩
    · subst e'
      obtain ⟨its,r,pl,hz⟩:=I.tuple hx
      have hlen:=r.length
      exact truthy_tuple pl (by simp only[List.size_toArray];omega) ⟨H,I.tok _,by rw[isEmpty_of r];exact q⟩
    · subst e'
      obtain ⟨hz,hS,vs,r,m⟩:kvs.length≤sizeLine∧(p == sysModules)=false∧∃ vs,KV kvs vs∧s.heap.DictOf (mixKind X.prog X.w) p vs:=I.hok p _ hx
      have hlen:kvs.length=vs.length:=Paired.length r
      exact wpAny_truthy_dict hS m (by omega) ⟨H,I.tok _,by rw[isEmpty_kv r];exact q⟩
  | _=>exact (show False from e).elim
theorem pt_truth (ha:PE X a ta) (he:∀ whole,isTrue a X.env whole=(do let v ←whole;standAt a.pos;holding [v] (truthy v))):
    PT X a (fun σ H Q=>ta σ H fun x H'=>∃ k,TruV X.K x H' k∧Q k H'):=by
  intro pins s σ H Q I h
  exact isTrue_plain (thn (ha pins s σ H _ I h) fun v s1 ⟨x,H1,I1,r1,q1⟩=>tru_ok pins s1 σ H1 x v Q I1 r1 q1) (he _)
theorem op_add_str:OpR X (binaryOp .Add) (fun x y H Q=>∃ i j,x=.str i∧y=.str j∧i.length + j.length≤sizeLine∧Q (.str (i++j)) H):=by
  intro pins s σ H x y v u Q I rx ry h
  obtain ⟨i,j,rfl,rfl,hz,q⟩:=h
  obtain ⟨t,rfl⟩:=rx
  obtain ⟨t',rfl⟩:=ry
  exact add_str (fun t' tk=>⟨.str (i++j),H,I.tok _,⟨_,rfl⟩,q⟩) hz
theorem vals1 {x:V} {us:List Value} (r:Vals [x] us):∃ u,us=[u]∧RelV x u:=by
  cases r with
  | cons r1 r2=>cases r2;exact ⟨_,rfl,r1⟩
theorem call_int1:CallR X (.type "int") (fun xs H Q=>(∃ i,xs=[.int i]∧Q (.int i) H)∨∃ k,xs=[.bl k]∧Q (.int (if k then 1 else 0)) H):=by
  intro pins s σ H xs us Q I r h
  rcases h with ⟨i,rfl,q⟩ | ⟨k,rfl,q⟩
  · obtain ⟨u,rfl,t,rfl⟩:=vals1 r
    exact call_int_int ⟨.int i,H,I,⟨_,rfl⟩,q⟩
  · obtain ⟨u,rfl,r1⟩:=vals1 r
    cases r1
    exact call_int_bool ⟨.int (if k then 1 else 0),H,I.tok _,⟨_,rfl⟩,q⟩
def LenV (K:PySem.W.Frag) (x:V) (H:Hp) (n:Nat):Prop:=
  match x with
  | .str y=>y.length≤sizeLine∧n=y.length
  | .byt y=>y.size≤sizeLine∧n=y.size
  | .ref p=>(∃ xs,SqL K H p xs∧n=xs.length)∨∃ xs,SqT K H p xs∧n=xs.length
  | _=>False
theorem call_len:CallR X (.builtin "len") (fun xs H Q=>∃ x n,xs=[x]∧LenV X.K x H n∧Q (.int n) H):=by
  intro pins s σ H xs us Q I r h
  obtain ⟨x,n,rfl,e,q⟩:=h
  obtain ⟨u,rfl,rx⟩:=vals1 r
  have hl:=line63
  have hs:sizeLine=16777216:=sizeLine_eq
  cases x with
  | str y=>
    obtain ⟨t,rfl⟩:=rx
    obtain ⟨hy,e'⟩:y.length≤sizeLine∧n=y.length:=e
    subst e'
    exact len_str (by omega) ⟨.int _,H,I.tok _,⟨_,rfl⟩,q⟩
  | byt y=>
    obtain ⟨t,rfl⟩:=rx
    obtain ⟨hy,e'⟩:y.size≤sizeLine∧n=y.size:=e
    subst e'
    exact PySem.W.len_bytes (by omega) ⟨.int _,H,I.tok _,⟨_,rfl⟩,q⟩
  | ref p=>
    cases rx
    have e':(∃ xs,SqL X.K H p xs∧n=xs.length)∨∃ xs,SqT X.K H p xs∧n=xs.length:=e
    rcases e' with ⟨xs,hx,e'⟩ | ⟨xs,hx,e'⟩
    · subst e'
      obtain ⟨its,r',pl,hz⟩:=I.list hx
      have hlen:=r'.length
      exact Calls.call_len_list pl.isList (by simp only[List.size_toArray];omega) ⟨.int xs.length,H,I.tok _,⟨_,by simp only[List.size_toArray];rw[hlen]⟩,q⟩
    · subst e'
      obtain ⟨its,r',pl,hz⟩:=I.tuple hx
      have hlen:=r'.length
      exact len_tuple pl (by simp only[List.size_toArray];omega) ⟨.int xs.length,H,I.tok _,⟨_,by simp only[List.size_toArray];rw[hlen]⟩,q⟩
  | _=>exact (show False from e).elim
end
end L2
namespace L2
open PySem PySem.Spec PyProof.Rows
structure ObjM (h:Heap) (x dx C:Addr) (mA:Str→Option Value):Prop where
  obj:h.get? x=some (PySem.W.instObj C dx)
  ns:h.Ns1 dx mA
  ne:dx≠x
theorem lookIn_ns {h:Heap} {dx:Addr} {mA:Str→Option Value} (n:h.Ns1 dx mA):∃ od,h.get? dx=some od∧∀ name,PySem.W.lookIn name od=some (mA name):=by
  obtain ⟨o,es,ep,ho,hd,hk,_,hm⟩:=n
  refine ⟨o,ho,fun name=>?_⟩
  have e:=hm name
  unfold nsFind findBy at e
  rw[←Array.find?_toList] at e
  unfold PySem.W.lookIn
  rw[hd]
  dsimp only
  split
  · rename_i y q
    rw[q] at e
    exact congrArg some e
  · rename_i q
    rw[q] at e
    have a:es.toList.any (·.refKey)=false:=by
      rw[List.any_eq_false]
      intro y hy
      obtain ⟨z,t,hkey⟩:=hk y (Array.mem_toList_iff.mp hy)
      simp [DictEntry.refKey,hkey]
    have a':¬ es.toList.any (·.refKey)=true:=by rw[a];exact Bool.false_ne_true
    rw[if_neg a']
    exact congrArg some e
theorem ObjM.look {h:Heap} {x dx C:Addr} {mA:Str→Option Value} (I:ObjM h x dx C mA):∃ od,PySem.W.InstAt h x (PySem.W.instObj C dx) C (some od)∧∀ name,PySem.W.lookIn name od=some (mA name):=
  let ⟨od,ho,hl⟩:=lookIn_ns I.ns
  ⟨od,⟨I.obj,rfl,rfl,ho⟩,hl⟩
section
variable {prog:Program} {w:World} {A:Around} {E:Value→Shared→Prop} {s:Shared} {K:PySem.W.Frag} {x dx C f:Addr} {mA:Str→Option Value} {name:Str} {v:Value}
theorem get_map {expr:Bool} {Q:Value→Shared→Prop} (X:K.In s.heap) (I:ObjM s.heap x dx C mA) (hg:PySem.W.plainGet K C name=true) (hh:PySem.W.hasDictIn K C=true)
    (ha:PySem.W.findIn K (.ref C) name=some none) (hv:mA name=some v) (hv':PySem.W.handedIn v=true) (h:Q v { s with toks:=s.toks + 1 }):
    wpAny (model prog w) A (getAttr (.ref x) name expr) Q E s:=by
  obtain ⟨od,J,hl⟩:=I.look
  exact PySem.W.get_value X J (PySem.W.plainGet_of hg).1 (PySem.W.findObj_own hh ha rfl (by rw[hl,hv])) hv' h
theorem get_meth {pl:Sem Bool} {Q:Value×List Value→Shared→Prop} (X:K.In s.heap) (I:ObjM s.heap x dx C mA) (hg:PySem.W.plainGet K C name=true)
    (hf:PySem.W.findIn K (.ref C) name=some (some (.ref f))) (ht:PySem.W.isFn K (.ref f)=true) (hv:mA name=none) (h:Q (.ref f,[.ref x]) s):
    wpAny (model prog w) A (getMethod (.ref x) name pl) Q E s:=by
  obtain ⟨od,J,hl⟩:=I.look
  exact PySem.W.method_fn X J (PySem.W.plainGet_of hg).1 (PySem.W.plainGet_of hg).2 hf (beq_iff_eq.mp ht) (by show (PySem.W.lookIn name od).map (·.isSome)=some false;rw[hl,hv];rfl) h
theorem set_map {ns:List Str} {Q:Unit→Shared→Prop} (X:K.In s.heap) (I:ObjM s.heap x dx C mA)
    (hs:PySem.W.findIn K (.ref C) "__setattr__"=some (some (.builtin "object.__setattr__"))) (hp:PySem.W.plainOver K C=true) (ht:PySem.W.takerIn K C name=some none) (hh:PySem.W.hasDictIn K C=true)
    (hw:PySem.Within mA ns) (hsz:ns.length≤sizeLine)
    (h:∀ h',ObjM h' x dx C (fun y=>if y=name then some v else mA y)→Heap.SameBut dx s.heap h'→Q () { s with heap:=h',toks:=s.toks + 2 }):
    wpAny (model prog w) A (setAttr (.ref x) name v) Q E s:=by
  obtain ⟨od,J,hl⟩:=I.look
  refine PySem.W.set_plain X J hs (PySem.W.osa_open (s:={ s with toks:=s.toks + 1 }) (r:=none) X J hp ht fun b=>?_)
  obtain ⟨cd,hc,hd'⟩:=PySem.W.any_some hh
  have hx:s.heap.get? x=some ⟨.ref C,some dx,.plain,#[]⟩:=I.obj
  refine wpAny_bind (wpAny_pure (wpAny_bind (wpAny_bind (wpAny_loadPart hx (wpAny_bind (PySem.W.Looks.here (s:={ s with toks:=s.toks + 1 }) (PySem.W.looks_clsIn X hc) ?_))))))
  rw[hd']
  refine wpAny_pure (a:=some dx) (wpAny_bind (wpAny_pure (wpAny_bind ?_)))
  refine wpAny_nsSet1 (s:={ s with toks:=s.toks + 1 }) I.ns fun h' hn2 hs2=>?_
  obtain ⟨oD,esD,epD,hoD,hdD,hcD⟩:=hn2.count (PySem.Within.cons name v hw)
  refine wpAny_bind (wpAny_lookBehind hoD (by rw[hdD];exact pastItsLine_dict (Nat.le_trans hcD (by rw[List.length_cons];omega))) ?_)
  exact wpAny_pure (h _ ⟨(hs2.2 _ (Ne.symm I.ne)).trans I.obj,hn2,I.ne⟩ hs2)
theorem make_map {R:Result→Shared→Prop} {vs:List Value} {kw:List (Str×Value)} (X:K.In s.heap) (hm:PySem.W.makesIn K C=true)
    (hi:PySem.W.findIn K (.ref C) "__init__"=some (some (.ref f))) (hf:PySem.W.typeIn K (.ref f)=some (.type "function"))
    (h:codeAny (model prog w) (A.under (.builtin "type.__call__" ⟨.ref C :: vs,kw⟩)) (.call (.ref f) ⟨.ref (s.heap.objs.size + 1) :: vs,kw⟩) (PySem.W.InitBack (s.heap.objs.size + 1) R)
      { s with heap:=(s.heap.push PySem.W.emptyDict).push (PySem.W.instObj C s.heap.objs.size) }):
    codeAny (model prog w) A (.call (.ref C) ⟨vs,kw⟩) R s:=by
  obtain ⟨hh,g,d,t,os⟩:=s
  exact PySem.W.make_core (PySem.W.makes_of X hm) (PySem.W.looks_findIn X hi) (fun self=>PySem.W.bind_fn X self hf) (.inl rfl) h
end
def putF (f:Str) (v:V):List (Str×V)→List (Str×V)
  | []=>[(f,v)]
  | (g,x) :: r=>if g=f then (g,v) :: r else (g,x) :: putF f v r
theorem lookup_putF (f g:Str) (v:V):∀ fs:List (Str×V),(putF f v fs).lookup g=if g=f then some v else fs.lookup g
  | []=>by
    show List.lookup g [(f,v)]=_
    by_cases h:g=f
    · have hb:(g == f)=true:=beq_iff_eq.mpr h
      simp only[List.lookup,hb,if_pos h]
    · have hb:(g == f)=false:=beq_eq_false_iff_ne.mpr h
      simp only[List.lookup,hb,if_neg h]
  | (k,x) :: r=>by
    have ih:=lookup_putF f g v r
    rw[show putF f v ((k,x) :: r)=(if k=f then (k,v) :: r else (k,x) :: putF f v r) from rfl]
    by_cases hk:k=f
    · rw[if_pos hk]
      by_cases h:g=k
      · have hb:(g == k)=true:=beq_iff_eq.mpr h
        simp only[List.lookup,hb,if_pos (h.trans hk)]
      · have hb:(g == k)=false:=beq_eq_false_iff_ne.mpr h
        simp only[List.lookup,hb,if_neg (fun e:g=f=>h (e.trans hk.symm))]
    · rw[if_neg hk]
      by_cases h:g=k
      · have hb:(g == k)=true:=beq_iff_eq.mpr h
        simp only[List.lookup,hb,if_neg (fun e:g=f=>hk (h.symm.trans e))]
      · have hb:(g == k)=false:=beq_eq_false_iff_ne.mpr h
        simp only[List.lookup,hb]
        exact ih
theorem keys_putF (f:Str) (v:V):∀ fs:List (Str×V),f∈(putF f v fs).map (·.1)∧∀ g,g∈fs.map (·.1)→g∈(putF f v fs).map (·.1)
  | []=>⟨by simp [putF],fun g h=>by simp at h⟩
  | (k,x) :: r=>by
    obtain ⟨i1,i2⟩:=keys_putF f v r
    rw[show putF f v ((k,x) :: r)=(if k=f then (k,v) :: r else (k,x) :: putF f v r) from rfl]
    by_cases hk:k=f
    · rw[if_pos hk]
      subst hk
      exact ⟨by simp,fun g h=>by simpa using h⟩
    · rw[if_neg hk]
      refine ⟨?_,fun g h=>?_⟩
      · rw[List.map_cons]
        exact List.mem_cons_of_mem _ i1
      · rw[List.map_cons] at h ⊢
        rcases List.mem_cons.mp h with e | e
        · exact List.mem_cons.mpr (.inl e)
        · exact List.mem_cons_of_mem _ (i2 g e)
theorem length_putF (f:Str) (v:V):∀ fs:List (Str×V),(putF f v fs).length≤fs.length + 1
  | []=>by simp [putF]
  | (k,x) :: r=>by
    have ih:=length_putF f v r
    rw[show putF f v ((k,x) :: r)=(if k=f then (k,v) :: r else (k,x) :: putF f v r) from rfl]
    by_cases hk:k=f
    · rw[if_pos hk,List.length_cons,List.length_cons];omega
    · rw[if_neg hk,List.length_cons,List.length_cons];omega
theorem RelO.some_of {v:V} {o:Option Value} (r:RelO (some v) o):∃ u,o=some u∧RelV v u:=by
  cases o with
  | none=>exact (show False from r).elim
  | some u=>exact ⟨u,rfl,r⟩
theorem RelO.none_of {o:Option Value} (r:RelO none o):o=none:=by
  cases o with
  | none=>rfl
  | some u=>exact (show False from r).elim
theorem handed_of {v:V} {u:Value} (r:RelV v u):PySem.W.handedIn u=true:=by
  cases v with
  | non=>cases (show u=Value.none from r);rfl
  | bl b=>cases (show u=Value.bool b from r);rfl
  | int i=>obtain ⟨t,e⟩:=(show ∃ t,u=Value.int i t from r);cases e;rfl
  | str x=>obtain ⟨t,e⟩:=(show ∃ t,u=Value.str x t from r);cases e;rfl
  | byt b=>obtain ⟨t,e⟩:=(show ∃ t,u=Value.bytes b t from r);cases e;rfl
  | flt b=>obtain ⟨t,e⟩:=(show ∃ t,u=Value.float b t from r);cases e;rfl
  | ref a=>cases (show u=Value.ref a from r);rfl
  | ty n=>cases (show u=Value.type n from r);rfl
section
variable {P:Program} {w:World} {H H':Hp} {h h':Heap} {a C dx:Addr} {fs fs':List (Str×V)}
theorem ins_get (hok:HOk P w H h) (e:H a=some (.ins C dx fs)):∃ mA,ObjM h a dx C mA∧(∀ f,RelO (fs.lookup f) (mA f))∧PySem.Within mA (fs.map (·.1))∧fs.length≤1000∧H dx=some (.own a):=by
  obtain ⟨d,z,ne,ob,mA,n,r,q⟩:=(show ObjOk P w H h a (.ins C dx fs) from hok a _ e)
  exact ⟨mA,⟨ob,n,ne⟩,r,q,z,d⟩
end
structure Cls (K:PySem.W.Frag) (C:Addr):Prop where
  pg:PySem.W.plainGet K C Str.empty=true
  hd:PySem.W.hasDictIn K C=true
  po:PySem.W.plainOver K C=true
  sa:PySem.W.findIn K (.ref C) "__setattr__"=some (some (.builtin "object.__setattr__"))
theorem Cls.get {K:PySem.W.Frag} {C:Addr} (c:Cls K C) (f:Str):PySem.W.plainGet K C f=true:=c.pg
def NoAttr (K:PySem.W.Frag) (C:Addr) (f:Str):Prop:=PySem.W.findIn K (.ref C) f=some none
theorem NoAttr.taker {K:PySem.W.Frag} {C:Addr} {f:Str} (n:NoAttr K C f):PySem.W.takerIn K C f=some none:=by
  unfold PySem.W.takerIn
  rw[show PySem.W.findIn K (.ref C) f=some none from n]
  rfl
structure Con (K:PySem.W.Frag) (C:Addr) (f:Str) (v:V) (u:Value):Prop where
  at_:PySem.W.findIn K (.ref C) f=some (some u)
  rel:RelV v u
  get:PySem.W.specialIn K u "__get__"=some none
  cp:PySem.W.copiedNames.contains f=false
structure Meth (K:PySem.W.Frag) (C:Addr) (m:Str) (f:Addr):Prop where
  at_:PySem.W.findIn K (.ref C) m=some (some (.ref f))
  fn:PySem.W.isFn K (.ref f)=true
  kp:PySem.W.keepIn K (.ref f)=true
section
variable {X:Cx} {pins:List (Addr×Obj)} {σ:St} {H:Hp} {s:Shared} {a C dx:Addr} {fs:List (Str×V)} {f:Str} {v:V} {A:Around} {E:Value→Shared→Prop}
theorem getattr_ok {b:Bool} {Q:Value→Shared→Prop} (I:Inv X pins σ H s) (e:H a=some (.ins C dx fs)) (c:Cls X.K C) (n:NoAttr X.K C f) (l:fs.lookup f=some v)
    (h:∀ u s',Inv X pins σ H s'→RelV v u→Q u s'):wpAny (model X.prog X.w) A (getAttr (.ref a) f b) Q E s:=by
  obtain ⟨mA,O,r,_,_,_⟩:=ins_get I.hok e
  obtain ⟨u,hu,ru⟩:=RelO.some_of (v:=v) (o:=mA f) (by rw[←l];exact r f)
  exact get_map I.kIn O (c.get f) c.hd n hu (handed_of ru) (h u _ (I.tok _) ru)
theorem getmeth_ok {m:Str} {g:Addr} {pl:Sem Bool} {Q:Value×List Value→Shared→Prop} (I:Inv X pins σ H s) (e:H a=some (.ins C dx fs)) (c:Cls X.K C) (k:Meth X.K C m g) (l:fs.lookup m=none)
    (h:Q (.ref g,[.ref a]) s):wpAny (model X.prog X.w) A (getMethod (.ref a) m pl) Q E s:=by
  obtain ⟨mA,O,r,_,_,_⟩:=ins_get I.hok e
  have hn:mA m=none:=RelO.none_of (by rw[←l];exact r m)
  exact get_meth I.kIn O (c.get m) k.at_ k.fn hn h
theorem setattr_ok {y:V} {u:Value} {Q:Unit→Shared→Prop} (I:Inv X pins σ H s) (e:H a=some (.ins C dx fs)) (c:Cls X.K C) (n:NoAttr X.K C f) (hl:fs.length < 1000) (ry:RelV y u)
    (h:∀ s',Inv X pins σ (upd H a (.ins C dx (putF f y fs))) s'→Q () s'):wpAny (model X.prog X.w) A (setAttr (.ref a) f u) Q E s:=by
  obtain ⟨mA,O,r,wi,_,ho⟩:=ins_get I.hok e
  have hz:(fs.map (·.1)).length≤sizeLine:=by rw[List.length_map,sizeLine_eq];omega
  refine set_map I.kIn O c.sa c.po n.taker c.hd wi hz fun h' O' sb=>h _ ?_
  have hd:∃ o,h'.get? dx=some o:=let ⟨o,_,_,e',_⟩:=O'.ns;⟨o,e'⟩
  refine I.write (x:=a) (e:=dx) (by rw[e];exact True.intro) (.inr ho) (fun b q hb z=>(sb.2 b hb).trans z) hd ?_
  refine ⟨by rw[upd_ne O.ne];exact ho,?_,O.ne,O'.obj,_,O'.ns,fun g=>?_,fun g hg=>?_⟩
  · have:=length_putF f y fs;omega
  · show RelO ((putF f y fs).lookup g) (if g=f then some u else mA g)
    rw[lookup_putF]
    by_cases q:g=f
    · rw[if_pos q,if_pos q];exact ry
    · rw[if_neg q,if_neg q];exact r g
  · by_cases q:g=f
    · rw[q];exact (keys_putF f y fs).1
    · refine (keys_putF f y fs).2 g (wi g fun z=>hg ?_)
      show (if g=f then some u else mA g)=none
      rw[if_neg q];exact z
theorem Inv.made (I:Inv X pins σ H s):Inv X pins σ (upd (upd H s.heap.objs.size (.own (s.heap.objs.size + 1))) (s.heap.objs.size + 1) (.ins C s.heap.objs.size []))
    { s with heap:=(s.heap.push PySem.W.emptyDict).push (PySem.W.instObj C s.heap.objs.size) }:=by
  have e1:(s.heap.push PySem.W.emptyDict).get? s.heap.objs.size=some PySem.W.emptyDict:=Heap.get?_push_size s.heap rfl
  have e2:((s.heap.push PySem.W.emptyDict).push (PySem.W.instObj C s.heap.objs.size)).get? (s.heap.objs.size + 1)=some (PySem.W.instObj C s.heap.objs.size):=by
    have:=Heap.get?_push_size (s.heap.push PySem.W.emptyDict) (o:=PySem.W.instObj C s.heap.objs.size) rfl
    rwa [Heap.size_push] at this
  have e3:(s.heap.push PySem.W.emptyDict).Ns s.heap.objs.size (fun _=>none):=⟨PySem.W.emptyDict,#[],_,e1,rfl,(fun e he=>absurd he (by simp)),fun _=>rfl⟩
  have I1:=I.laid (a:=s.heap.objs.size) (o:=.own (s.heap.objs.size + 1)) (h':=s.heap.push PySem.W.emptyDict) (t':=s.toks) (fun b u q=>Heap.get?_push_of_some _ q) (Nat.le_refl _) ⟨_,e1⟩
  refine I1.laid (a:=s.heap.objs.size + 1) (o:=.ins C s.heap.objs.size []) (t':=s.toks) (fun b u q=>Heap.get?_push_of_some _ q) (Nat.le_of_eq (Heap.size_push _ _)) ?_
  have ne:s.heap.objs.size≠s.heap.objs.size + 1:=Nat.ne_of_lt (Nat.lt_succ_self _)
  refine ⟨by rw[upd_ne ne,upd_same],Nat.zero_le _,ne,e2,fun _=>none,(Heap.Ns1.of_empty e3).at fun o q=>Heap.get?_push_of_some _ q,fun _=>True.intro,fun y hy=>absurd rfl hy⟩
theorem attr_of {prog:Program} {w:World} {env:Env} {e:Expr} {f:Str} {pos:Pos} {s:Shared} {Q:Value→Shared→Prop} (hb:attributeBase e f env (eval e env)=eval e env)
    (h:wpAny (model prog w) A (eval e env) (fun o s₁=>wpAny (model prog w) A (getAttr o f true) Q E s₁) E s):wpAny (model prog w) A (eval (.Attribute e f pos) env) Q E s:=
  Attribute_any_ h (by rw[arm_eval_Attribute,hb])
end
def tFld (K:PySem.W.Frag) (ta:TE) (f:Str):TE:=fun σ H Q=>ta σ H fun x H1=>∃ a C dx fs v,x=.ref a∧H1 a=some (.ins C dx fs)∧Cls K C∧NoAttr K C f∧fs.lookup f=some v∧Q v H1
def sFld (K:PySem.W.Frag) (ta tv:TE) (f:Str):TS:=fun D σ H=>tv σ H fun y H1=>ta σ H1 fun x H2=>∃ a C dx fs,x=.ref a∧H2 a=some (.ins C dx fs)∧Cls K C∧NoAttr K C f∧fs.length < 1000 ∧
  D.nx σ (upd H2 a (.ins C dx (putF f y fs)))
section
variable {X:Cx} {o e value:Expr} {f:Str} {pos pos' tpos:Pos} {ta tv:TE}
theorem pe_fld (he:PE X e ta) (hb:attributeBase e f X.env (eval e X.env)=eval e X.env):PE X (.Attribute e f pos) (tFld X.K ta f):=by
  intro pins s σ H Q I h
  refine attr_of hb (thn (he pins s σ H _ I h) fun u s1 ⟨x,H1,I1,rx,a,C,dx,fs,v,ex,ea,c,n,l,q⟩=>?_)
  subst ex
  obtain rfl:u=Value.ref a:=rx
  exact getattr_ok I1 ea c n l fun u' s2 I2 ru=>⟨v,H1,I2,ru,q⟩
theorem ps_fld (ha:PE X o ta) (hv:PE X value tv) (hs:swapsWith value (some (.Attribute o f pos')) pos.line X.env=pure false):PS X (.Assign [.Attribute o f pos'] value pos) (sFld X.K ta tv f):=by
  intro pins s σ H D I h
  refine plainObj_wpAny_Assign_Attribute (thn (hv pins s σ H _ I h) fun u s1 ⟨y,H1,I1,ry,q⟩=>thn (ha pins s1 σ H1 _ I1 q) fun ov s2 ⟨x,H2,I2,rx,a,C,dx,fs,ex,ea,c,n,l,q2⟩=>?_) hs
  subst ex
  obtain rfl:ov=Value.ref a:=rx
  exact setattr_ok I2 ea c n l ry fun s3 I3=>⟨σ,_,I3,q2⟩
end
section
variable {X:Cx} {pins:List (Addr×Obj)} {σ:St} {H:Hp} {s:Shared} {A:Around} {E:Value→Shared→Prop} {Q:Value→Shared→Prop} {c:Value} {b:Bool}
inductive TyOf (K:PySem.W.Frag) (H:Hp):V→Value→Prop where
  | non:TyOf K H .non (.type "NoneType")
  | bl (x:Bool):TyOf K H (.bl x) (.type "bool")
  | int (i:Int):TyOf K H (.int i) (.type "int")
  | str (x:Str):TyOf K H (.str x) (.type "str")
  | flt (x:UInt64):TyOf K H (.flt x) (.type "float")
  | lst {a:Addr} {xs:List V} (e:H a=some (.lst xs)):TyOf K H (.ref a) (.type "list")
  | frz {a:Addr} {o:Obj} {xs:List V} (e:H a=some (.frz o (.lst xs))):TyOf K H (.ref a) (.type "list")
  | tup {a:Addr} {xs:List V} (e:H a=some (.tup xs)):TyOf K H (.ref a) (.type "tuple")
  | dK {a:Addr} {kvs:List (Key×V)} (e:H a=some (.dK kvs)):TyOf K H (.ref a) (.type "dict")
  | dT {a:Addr} {kvs:List (List Key×V)} (e:H a=some (.dT kvs)):TyOf K H (.ref a) (.type "dict")
  | ins {a C dx:Addr} {fs:List (Str×V)} (e:H a=some (.ins C dx fs)) (cl:Cls K C) (ha:PySem.W.findIn K (.ref C) "__class__"=some (some (.builtin "object.__class__")))
      (hn:PySem.W.specialIn K (.builtin "object.__class__") "__get__"=some (some (.builtin "getset_descriptor.__get__"))) (htk:PySem.W.takesIn K (.builtin "object.__class__")=some true)
      (hm:PySem.W.mroIn K C (.type "object")=some true):TyOf K H (.ref a) (.ref C)
theorem isinst_ok {x:V} {u t:Value} (I:Inv X pins σ H s) (rx:RelV x u) (ty:TyOf X.K H x t) (e:PySem.W.kitOne X.K t c=some b) (h:∀ tk,Q (.bool b) { s with toks:=tk }):
    wpAny (model X.prog X.w) A (call (.builtin "isinstance") [u,c]) Q E s:=by
  cases ty with
  | non=>cases (show u=Value.none from rx);exact PySem.W.kia_one PySem.W.kitx_none I.kIn True.intro e (fun z=>nomatch z) h
  | bl y=>cases (show u=Value.bool y from rx);exact PySem.W.kia_one PySem.W.kitx_bool I.kIn True.intro e (fun z=>nomatch z) h
  | int i=>obtain ⟨t,q⟩:=(show ∃ t,u=Value.int i t from rx);cases q;exact PySem.W.kia_one PySem.W.kitx_int I.kIn True.intro e (fun z=>nomatch z) h
  | str y=>obtain ⟨t,q⟩:=(show ∃ t,u=Value.str y t from rx);cases q;exact PySem.W.kia_one PySem.W.kitx_str I.kIn True.intro e (fun z=>nomatch z) h
  | flt y=>obtain ⟨t,q⟩:=(show ∃ t,u=Value.float y t from rx);cases q;exact PySem.W.kia_one PySem.W.kitx_float I.kIn True.intro e (fun z=>nomatch z) h
  | @lst a xs ea=>
    cases (show u=Value.ref a from rx)
    obtain ⟨_,_,n,_,h1⟩:=(show ObjOk X.prog X.w H s.heap a (.lst xs) from I.hok a _ ea)
    exact PySem.W.kia_one PySem.W.kitx_list I.kIn ⟨_,h1,rfl⟩ e (fun z=>nomatch z) h
  | @frz a ob xs ea=>
    cases (show u=Value.ref a from rx)
    obtain ⟨_,_,_,n,_,h1⟩:=(show ObjOk X.prog X.w H s.heap a (.frz ob (.lst xs)) from I.hok a _ ea)
    exact PySem.W.kia_one PySem.W.kitx_list I.kIn ⟨_,h1,rfl⟩ e (fun z=>nomatch z) h
  | @tup a xs ea=>
    cases (show u=Value.ref a from rx)
    obtain ⟨_,_,_,p⟩:=(show ObjOk X.prog X.w H s.heap a (.tup xs) from I.hok a _ ea)
    obtain ⟨o,h1,h2,_⟩:=p
    exact PySem.W.kia_one PySem.W.kitx_tuple I.kIn ⟨o,h1,h2⟩ e (fun z=>nomatch z) h
  | @dK a kvs ea=>
    cases (show u=Value.ref a from rx)
    obtain ⟨_,_,vs,_,p⟩:=(show ObjOk X.prog X.w H s.heap a (.dK kvs) from I.hok a _ ea)
    obtain ⟨o,es,ep,h1,h2,_⟩:=p
    exact PySem.W.kia_one PySem.W.kitx_dict I.kIn ⟨o,h1,h2.1⟩ e (fun z=>nomatch z) h
  | @dT a kvs ea=>
    cases (show u=Value.ref a from rx)
    obtain ⟨_,_,xs,_,o,es,ep,h1,h2,_⟩:=(show ObjOk X.prog X.w H s.heap a (.dT kvs) from I.hok a _ ea)
    exact PySem.W.kia_one PySem.W.kitx_dict I.kIn ⟨o,h1,h2.1⟩ e (fun z=>nomatch z) h
  | @ins a C dx fs ea cl ha hn htk hm=>
    cases (show u=Value.ref a from rx)
    obtain ⟨mA,O,_⟩:=ins_get I.hok ea
    obtain ⟨od,J,_⟩:=O.look
    exact PySem.W.kia_one (PySem.W.kitx_own (cl.get _) cl.hd ha hn htk hm) I.kIn J e (fun z=>nomatch z) h
end
end L2
namespace L2
open PySem PySem.Spec PyProof.Rows
structure Room (k:Nat) (A:Around):Prop where
  hd:A.handled=none
  dp:A.depth + 3 * k + 5 < recursionLimit
  un:A.units + 16 * k + 200 < cLine
theorem Room.mono {j k:Nat} {A:Around} (r:Room k A) (h:j≤k):Room j A:=⟨r.hd,by have:=r.dp;omega,by have:=r.un;omega⟩
theorem Room.deeper {k:Nat} {A:Around} (r:Room (k + 1) A) (env:Env):Room k (A.deeper env):=
  ⟨r.hd,by have:=r.dp;show A.depth + 1 + 3 * k + 5 < _;omega,by have:=r.un;show A.units + 3 + 16 * k + 200 < _;omega⟩
theorem Room.in1 {k:Nat} {A:Around} (r:Room (k + 1) A):Room k A.in1:=
  ⟨r.hd,by have:=r.dp;show A.depth + 3 * k + 5 < _;omega,by have:=r.un;show A.units + 1 + 16 * k + 200 < _;omega⟩
theorem make_depth {A:Around} {C:Addr} {us:List Value} {kw:List (Str×Value)}:(A.under (.builtin "type.__call__" ⟨.ref C :: us,kw⟩)).depth=A.depth + 1:=by
  first | rfl | simp [Around.under,Code.weight,Code.isCreation,Code.isGuard,Code.isCaller,Code.frames,Code.isFrame,guardIds]
theorem make_units {A:Around} {C:Addr} {us:List Value} {kw:List (Str×Value)}:(A.under (.builtin "type.__call__" ⟨.ref C :: us,kw⟩)).units=A.units + 1:=by
  first | rfl | simp [Around.under,Code.cUnits,Code.frames,Code.isFrame]
theorem Room.make {k:Nat} {A:Around} (r:Room (k + 1) A) (C:Addr) (us:List Value) (kw:List (Str×Value)):Room k (A.under (.builtin "type.__call__" ⟨.ref C :: us,kw⟩)):=
  ⟨r.hd,by have:=r.dp;rw[make_depth];omega,by have:=r.un;rw[make_units];omega⟩
theorem Room.depth {k:Nat} {A:Around} (r:Room k A):A.depth < recursionLimit:=by have:=r.dp;omega
theorem Room.units {k:Nat} {A:Around} (r:Room k A):A.units + 64 < cLine:=by have:=r.un;omega
def tNil:TA:=fun _ H Q=>Q [] H
def tCons (ta:TE) (tr:TA):TA:=fun σ H Q=>ta σ H fun x H1=>tr σ H1 fun xs H2=>Q (x :: xs) H2
section
variable {X:Cx} {e:Expr} {es:List Expr} {te:TE} {t:TA} {pos:Pos}
theorem pa_nil:PA X [] tNil:=fun _ _ _ _ H Q I h=>Calls.spliced_nil ⟨[],H,I,.nil,h⟩
theorem pa_cons (ha:PE X e te) (hr:PA X es t) (hs:starEach (e :: es) X.env=(false,eval e X.env) :: starEach es X.env:=by rfl):PA X (e :: es) (tCons te t):=by
  intro pos pins s σ H Q I h
  rw[hs]
  show wpAny _ _ (spliced ((false,eval e X.env) :: backTo pos (starEach es X.env))) _ _ s
  refine Calls.spliced_cons (thn (ha pins s σ H _ I h) fun u s1 ⟨x,H1,I1,r1,q1⟩=>?_)
  exact thn (hr pos pins s1 σ H1 _ I1 q1) fun us s2 ⟨xs,H2,I2,r2,q2⟩=>⟨x :: xs,H2,I2,.cons r1 r2,q2⟩
def tTup (t:TA):TE:=fun σ H Q=>t σ H fun xs H1=>xs.length≤sizeLine∧∀ p,H1 p=none→Q (.ref p) (upd H1 p (.tup xs))
def tLst (t:TA):TE:=fun σ H Q=>t σ H fun xs H1=>xs.length≤sizeLine∧∀ p,H1 p=none→Q (.ref p) (upd H1 p (.lst xs))
theorem pe_tup {x1} (h:PA X es t):PE X (.Tuple es x1 pos) (tTup t):=by
  intro pins s σ H Q I hq
  refine wpAny_Tuple_spliced (thn (h pos pins s σ H _ I hq) fun us s1 ⟨xs,H1,I1,r,z,q⟩=>⟨by rw[←r.length];exact z,?_⟩)
  have hf:H1 s1.heap.objs.size=none:=I1.hok.fresh (Nat.le_refl _)
  refine ⟨.ref s1.heap.objs.size,upd H1 s1.heap.objs.size (.tup xs),I1.laid (t':=s1.toks) (fun b u e=>Heap.get?_push_of_some _ e) (Nat.le_refl _) ?_,rfl,q _ hf⟩
  exact ⟨z,us,r,⟨_,Heap.get?_push_size _ rfl,rfl,_,rfl⟩⟩
theorem pe_lst (h:PA X es t):PE X (.List es pos) (tLst t):=by
  intro pins s σ H Q I hq
  refine wpAny_List_spliced (thn (h pos pins s σ H _ I hq) fun us s1 ⟨xs,H1,I1,r,z,q⟩=>⟨by rw[←r.length];exact z,?_⟩)
  have hf:H1 s1.heap.objs.size=none:=I1.hok.fresh (Nat.le_refl _)
  refine ⟨.ref s1.heap.objs.size,upd H1 s1.heap.objs.size (.lst xs),I1.laid (t':=s1.toks) (fun b u e=>Heap.get?_push_of_some _ e) (Nat.le_refl _) ?_,rfl,q _ hf⟩
  exact ⟨z,us,0,r,Heap.get?_push_size _ rfl⟩
end
abbrev Sp:=List V→Hp→VK→XK→Prop
abbrev CXT:=List Env→Hp→Shared→XK→Value→Shared→Prop
structure Env0 (P:Program) (w:World) (K:PySem.W.Frag) (mg:Str→Option Value) (base:Heap) (A:Around) (outer:List Env) (s:Shared) (H:Hp):Prop where
  frames:A.frames=some outer
  mod:Mod K mg base
  bs:∀ b o,base.get? b=some o→s.heap.get? b=some o∧H b=none
  bsz:base.objs.size≤s.heap.objs.size
  funs:s.heap.FunFrames base outer
  frf:∀ b∈frs outer,H b=none
  hok:HOk P w H s.heap
  bare:AllBare s.gens
def CE (outer:List Env) (P:Program) (w:World) (H:Hp) (s:Shared) (Q:VK) (u:Value) (s':Shared):Prop:=
  ∃ v H',s'.os=s.os∧AllBare s'.gens∧Un (frs outer) [] H H' s.heap s'.heap∧HOk P w H' s'.heap∧RelV v u∧Q v H'
def CR (CX:CXT) (outer:List Env) (P:Program) (w:World) (H:Hp) (s:Shared) (Q:VK) (E:XK) (r:Result) (s':Shared):Prop:=
  match r with
  | .ok (.ret u)=>CE outer P w H s Q u s'
  | .ok _=>False
  | .error e=>CX outer H s E e s'
structure FnOk (P:Program) (w:World) (K:PySem.W.Frag) (mg:Str→Option Value) (base:Heap) (CX:CXT) (k:Nat) (f:Addr) (fd:FuncData) (ps:List Str) (sp:Sp):Prop where
  len:∀ vs H Q E,sp vs H Q E→vs.length=ps.length
  run:∀ (A:Around) (outer:List Env) (s:Shared) (H:Hp) (args:Args) (us:List Value) (vs:List V) (Q:VK) (E:XK),Room k A→Env0 P w K mg base A outer s H→BindsTo s fd args (ps.zip us)→Vals vs us→sp vs H Q E →
    codeAny (model P w) A (.call (.ref f) args) (CR CX outer P w H s Q E) s
theorem FnOk.mono {P:Program} {w:World} {K:PySem.W.Frag} {mg:Str→Option Value} {base:Heap} {CX:CXT} {j k:Nat} {f:Addr} {fd:FuncData} {ps:List Str} {sp:Sp} (F:FnOk P w K mg base CX j f fd ps sp) (h:j≤k):
    FnOk P w K mg base CX k f fd ps sp:=⟨F.len,fun A outer s H args us vs Q E hr=>F.run A outer s H args us vs Q E (hr.mono h)⟩
theorem FnOk.imp {P:Program} {w:World} {K:PySem.W.Frag} {mg:Str→Option Value} {base:Heap} {CX:CXT} {k:Nat} {f:Addr} {fd:FuncData} {ps:List Str} {sp sp':Sp} (F:FnOk P w K mg base CX k f fd ps sp)
    (h:∀ vs H Q E,sp' vs H Q E→sp vs H Q E):FnOk P w K mg base CX k f fd ps sp':=
  ⟨fun vs H Q E q=>F.len vs H Q E (h _ _ _ _ q),fun A outer s H args us vs Q E hr he hb hv hs=>F.run A outer s H args us vs Q E hr he hb hv (h _ _ _ _ hs)⟩
theorem Env0.make {P:Program} {w:World} {K:PySem.W.Frag} {mg:Str→Option Value} {base:Heap} {A:Around} {outer:List Env} {s:Shared} {H:Hp} (e:Env0 P w K mg base A outer s H) (C:Addr) (us:List Value) (kw:List (Str×Value)):
    Env0 P w K mg base (A.under (.builtin "type.__call__" ⟨.ref C :: us,kw⟩)) outer s H:=⟨by first | exact e.frames | (simpa [Around.under,Code.envs,Code.isFrame,pushEnvs] using e.frames),e.mod,e.bs,e.bsz,e.funs,e.frf,e.hok,e.bare⟩
theorem Env0.in1 {P:Program} {w:World} {K:PySem.W.Frag} {mg:Str→Option Value} {base:Heap} {A:Around} {outer:List Env} {s:Shared} {H:Hp} (e:Env0 P w K mg base A outer s H):
    Env0 P w K mg base A.in1 outer s H:=⟨e.frames,e.mod,e.bs,e.bsz,e.funs,e.frf,e.hok,e.bare⟩
section
variable {X:Cx} {pins:List (Addr×Obj)} {σ:St} {H:Hp} {s s':Shared}
theorem Inv.env0 (I:Inv X pins σ H s):Env0 X.prog X.w X.K X.mg X.base X.A X.stack s H:=
  ⟨I.ok.frames,I.ok.mod,I.bs,Nat.le_trans I.ok.bsz I.sz,I.stack,I.stkFree,I.hok,I.bare⟩
theorem Inv.after {Q:VK} {u:Value} (I:Inv X pins σ H s) (h:CE X.stack X.prog X.w H s Q u s'):EP X pins σ Q u s':=by
  obtain ⟨v,H',os,bare,un,hok,r,q⟩:=h
  obtain ⟨hh,g,d,t,os'⟩:=s'
  obtain rfl:os'=s.os:=os
  exact ⟨v,H',I.call (h':=hh) (g':=g) (d':=d) (t':=t) (ch:=[]) un hok bare (fun b z=>absurd z (by simp)),r,q⟩
end
def tCall (sp:Sp) (dvs:List V) (E:XK) (t:TA):TE:=fun σ H Q=>t σ H fun vs H1=>sp (vs++dvs) H1 Q E
def tMeth (C:Addr) (m:Str) (sp:Sp) (dvs:List V) (E:XK) (ta:TE) (t:TA):TE:=fun σ H Q=>ta σ H fun x H1=>∃ a dx fs,x=.ref a∧H1 a=some (.ins C dx fs)∧fs.lookup m=none ∧
  t σ H1 fun vs H2=>sp (x :: (vs++dvs)) H2 Q E
def tMake (C:Addr) (sp:Sp) (dvs:List V) (E:XK) (t:TA):TE:=fun σ H Q=>t σ H fun vs H1=>∀ x dx,H1 x=none→H1 dx=none→dx≠x →
  sp (.ref x :: (vs++dvs)) (upd (upd H1 dx (.own x)) x (.ins C dx [])) (fun v H2=>v=.non∧Q (.ref x) H2) E
def Binds (K:PySem.W.Frag) (fd:FuncData) (ps:List Str) (ds:List Value):Prop:=
  ∀ (s:Shared) (us:List Value),K.In s.heap→(us++ds).length=ps.length→BindsTo s fd ⟨us,[]⟩ (ps.zip (us++ds))
theorem Binds.all {K:PySem.W.Frag} {fd:FuncData} {ps:List Str} (h:∀ us:List Value,us.length=ps.length→bindArgs fd ⟨us,[]⟩=pure (ps.zip us)):Binds K fd ps []:=fun s us _ hl=>by
  rw[List.append_nil] at hl ⊢
  exact .of_eq (h us hl)
def Passes (CX:CXT) (X:Cx) (E:XK):Prop:=∀ (pins:List (Addr×Obj)) (σ:St) (H:Hp) (s:Shared) (e:Value) (s':Shared),Inv X pins σ H s→CX X.stack H s E e s'→X.xe e s'
section
variable {X:Cx} {CX:CXT} {k:Nat} {f C:Addr} {fd:FuncData} {ps:List Str} {sp:Sp} {dvs:List V} {ds:List Value} {E:XK} {x m:Str} {p pos apos:Pos} {e o:Expr} {es:List Expr} {ta:TE} {t:TA}
theorem run_fn {pins:List (Addr×Obj)} {σ:St} {H:Hp} {s:Shared} {Q:VK} {us:List Value} {vs:List V} (F:FnOk X.prog X.w X.K X.mg X.base CX k f fd ps sp) (hr:Room k X.A) (hb:Binds X.K fd ps ds) (hd:Vals dvs ds) (hx:Passes CX X E)
    (I:Inv X pins σ H s) (r:Vals vs us) (h:sp (vs++dvs) H Q E):wpAny (model X.prog X.w) X.A (call (.ref f) us) (EP X pins σ Q) X.xe s:=by
  have r2:Vals (vs++dvs) (us++ds):=r.append hd
  have hl:(us++ds).length=ps.length:=by rw[←r2.length];exact F.len _ _ _ _ h
  refine wpAny_call (codeAny_mono (F.run X.A X.stack s H ⟨us,[]⟩ (us++ds) (vs++dvs) Q E hr I.env0 (hb s us I.kIn hl) r2 h) fun r s' hq=>?_)
  cases r with
  | error e=>exact hx pins σ H s e s' I hq
  | ok fl=>
    cases fl with
    | ret u=>exact I.after hq
    | next=>exact False.elim hq
    | brk=>exact False.elim hq
    | cont=>exact False.elim hq
theorem pe_call (F:FnOk X.prog X.w X.K X.mg X.base CX k f fd ps sp) (hr:Room k X.A) (hg:Gl X x) (hm:X.mg x=some (.ref f)) (hk:PySem.W.keepIn X.K (.ref f)=true) (hb:Binds X.K fd ps ds) (hd:Vals dvs ds) (hx:Passes CX X E)
    (ha:PA X (e :: es) t) (hdb:(x == ("__debug__":Str))=false:=by decide) (he:starEach (e :: es) X.env=(false,eval e X.env) :: starEach es X.env:=by rfl) (hpl:(backTo pos (starEach es X.env)).any (·.1)=false:=by rfl):
    PE X (.Call (.Name x p) (e :: es) [] pos) (tCall sp dvs E t):=by
  intro pins s σ H Q I h
  refine wpAny_Call_Name_kw (ld_glob I hg hm ?_ hdb)
  refine PySem.W.callWith_K (h₀:=X.base) I.ok.mod.kin hk (thn (ha pos pins s σ H _ I h) fun us s1 ⟨vs,H1,I1,r,q⟩=>⟨I1.kIn,?_⟩) he hpl
  exact run_fn F hr hb hd hx I1 r q
theorem pe_meth {pl:Sem Bool} (he:PE X o ta) (c:Cls X.K C) (hm:Meth X.K C m f) (F:FnOk X.prog X.w X.K X.mg X.base CX k f fd ps sp) (hr:Room k X.A) (hb:Binds X.K fd ps ds) (hd:Vals dvs ds) (hx:Passes CX X E) (ha:PA X (e :: es) t)
    (hst:starEach (e :: es) X.env=(false,eval e X.env) :: starEach es X.env:=by rfl) (hpl:(backTo pos (starEach es X.env)).any (·.1)=false:=by rfl)
    (ht:eval (.Call (.Attribute o m apos) (e :: es) [] pos) X.env=(do
      let ov ←eval o X.env
      standAt apos.atName
      let (f,first) ←holding [ov] (getMethod ov m pl)
      callWith pos f first (backTo pos (starEach (e :: es) X.env)) (backToKw pos (keywordEach [] X.env))):=by rfl):
    PE X (.Call (.Attribute o m apos) (e :: es) [] pos) (tMeth C m sp dvs E ta t):=by
  intro pins s σ H Q I h
  refine PySem.W.methodCall_KW (pl:=pl) (thn (he pins s σ H _ I h) fun u s1 ⟨x,H1,I1,rx,a,dx,fs,ex,ea,l,q⟩=>?_) ht
  subst ex
  obtain rfl:u=Value.ref a:=rx
  refine getmeth_ok I1 ea c hm l ?_
  refine PySem.W.callWith_K (first:=[.ref a]) (h₀:=X.base) I.ok.mod.kin hm.kp (thn (ha pos pins s1 σ H1 _ I1 q) fun us s2 ⟨vs,H2,I2,r,q2⟩=>⟨I2.kIn,?_⟩) hst hpl
  exact run_fn (us:=.ref a :: us) (vs:=.ref a :: vs) F hr hb hd hx I2 (.cons rfl r) q2
theorem pe_meth0 {pl:Sem Bool} (he:PE X o ta) (c:Cls X.K C) (hm:Meth X.K C m f) (F:FnOk X.prog X.w X.K X.mg X.base CX k f fd ps sp) (hr:Room k X.A) (hb:Binds X.K fd ps ds) (hd:Vals dvs ds) (hx:Passes CX X E)
    (ht:eval (.Call (.Attribute o m apos) [] [] pos) X.env=(do
      let ov ←eval o X.env
      standAt apos.atName
      let (f,first) ←holding [ov] (getMethod ov m pl)
      callWith pos f first (backTo pos (starEach [] X.env)) (backToKw pos (keywordEach [] X.env))):=by rfl):
    PE X (.Call (.Attribute o m apos) [] [] pos) (tMeth C m sp dvs E ta tNil):=by
  intro pins s σ H Q I h
  refine PySem.W.methodCall_KW (pl:=pl) (thn (he pins s σ H _ I h) fun u s1 ⟨x,H1,I1,rx,a,dx,fs,ex,ea,l,q⟩=>?_) ht
  subst ex
  obtain rfl:u=Value.ref a:=rx
  refine getmeth_ok I1 ea c hm l ?_
  exact PySem.W.callWith_K0 (first:=[.ref a]) I1.kIn hm.kp (run_fn (us:=[.ref a]) (vs:=[.ref a]) F hr hb hd hx I1 (.cons rfl .nil) q)
structure Mk (K:PySem.W.Frag) (C f:Addr):Prop where
  makes:PySem.W.makesIn K C=true
  init:PySem.W.findIn K (.ref C) "__init__"=some (some (.ref f))
  fn:PySem.W.isFn K (.ref f)=true
  kp:PySem.W.keepIn K (.ref C)=true
theorem run_make {pins:List (Addr×Obj)} {σ:St} {H:Hp} {s:Shared} {Q:VK} {us:List Value} {vs:List V} (M:Mk X.K C f) (F:FnOk X.prog X.w X.K X.mg X.base CX k f fd ps sp) (hr:Room (k + 1) X.A) (hb:Binds X.K fd ps ds) (hd:Vals dvs ds)
    (hx:Passes CX X E) (I:Inv X pins σ H s) (r:Vals vs us)
    (h:∀ x dx,H x=none→H dx=none→dx≠x→sp (.ref x :: (vs++dvs)) (upd (upd H dx (.own x)) x (.ins C dx [])) (fun v H2=>v=.non∧Q (.ref x) H2) E):
    wpAny (model X.prog X.w) X.A (call (.ref C) us) (EP X pins σ Q) X.xe s:=by
  have hq:=h (s.heap.objs.size + 1) s.heap.objs.size (I.hok.fresh (Nat.le_succ _)) (I.hok.fresh (Nat.le_refl _)) (Nat.ne_of_lt (Nat.lt_succ_self _))
  have I2:=Inv.made (C:=C) I
  have r2:Vals (V.ref (s.heap.objs.size + 1) :: (vs++dvs)) (Value.ref (s.heap.objs.size + 1) :: (us++ds)):=.cons rfl (r.append hd)
  have hl:(Value.ref (s.heap.objs.size + 1) :: us++ds).length=ps.length:=by
    have e:=r2.length
    rw[F.len _ _ _ _ hq] at e
    exact e.symm
  refine wpAny_call (make_map (f:=f) I.kIn M.makes M.init (beq_iff_eq.mp M.fn) (codeAny_mono (F.run _ X.stack _ _ ⟨Value.ref (s.heap.objs.size + 1) :: us,[]⟩ (Value.ref (s.heap.objs.size + 1) :: (us++ds)) _ _ E (hr.make C us [])
    (I2.env0.make C us []) (hb _ (Value.ref (s.heap.objs.size + 1) :: us) I2.kIn hl) r2 hq) fun r s' hq'=>?_))
  cases r with
  | error e=>exact hx pins σ _ _ e s' I2 hq'
  | ok fl=>
    cases fl with
    | ret u=>
      obtain ⟨v,H',I3,rv,ev,q3⟩:=I2.after hq'
      subst ev
      exact ⟨rv,⟨V.ref (s.heap.objs.size + 1),H',I3,rfl,q3⟩⟩
    | next=>exact False.elim hq'
    | brk=>exact False.elim hq'
    | cont=>exact False.elim hq'
theorem pe_make (M:Mk X.K C f) (F:FnOk X.prog X.w X.K X.mg X.base CX k f fd ps sp) (hr:Room (k + 1) X.A) (hg:Gl X x) (hm:X.mg x=some (.ref C)) (hb:Binds X.K fd ps ds) (hd:Vals dvs ds) (hx:Passes CX X E)
    (ha:PA X (e :: es) t) (hdb:(x == ("__debug__":Str))=false:=by decide) (he:starEach (e :: es) X.env=(false,eval e X.env) :: starEach es X.env:=by rfl) (hpl:(backTo pos (starEach es X.env)).any (·.1)=false:=by rfl):
    PE X (.Call (.Name x p) (e :: es) [] pos) (tMake C sp dvs E t):=by
  intro pins s σ H Q I h
  refine wpAny_Call_Name_kw (ld_glob I hg hm ?_ hdb)
  refine PySem.W.callWith_K (h₀:=X.base) I.ok.mod.kin M.kp (thn (ha pos pins s σ H _ I h) fun us s1 ⟨vs,H1,I1,r,q⟩=>⟨I1.kIn,?_⟩) he hpl
  exact run_make M F hr hb hd hx I1 r q
end
section
variable {X:Cx} {CX:CXT} {k:Nat} {f C:Addr} {fd:FuncData} {ps ks:List Str} {sp:Sp} {E:XK} {x m:Str} {p pos apos kpos:Pos} {e o:Expr} {es:List Expr} {kws:List Keyword} {te ta:TE} {t tk:TA} {nm:Option Str}
structure KBinds (K:PySem.W.Frag) (fd:FuncData) (ps ks:List Str) (g:List Value→List Value→List Value) (gV:List V→List V→List V):Prop where
  to:∀ (s:Shared) (us ws:List Value),K.In s.heap→(g us ws).length=ps.length→BindsTo s fd ⟨us,ks.zip ws⟩ (ps.zip (g us ws))
  rel:∀ {vs:List V} {us:List Value} {zs:List V} {ws:List Value},Vals vs us→Vals zs ws→Vals (gV vs zs) (g us ws)
variable {g:List Value→List Value→List Value} {gV:List V→List V→List V}
end
structure FnScope (N P:List Str) (sc:Scope):Prop where
  kind:sc.kind=.function
  co:sc.isCoroutine=false
  gen:sc.isGenerator=false
  nd:N.Nodup
  pre:N.take P.length=P
  par:∀ x∈P,sc.names.lookup x=some .local∨sc.names.lookup x=some .cell
  nofree:∀ y∈sc.names,y.2≠.free
theorem bindL_out {kindOf:Str→Option NameKind} {x:Str}:∀ {binds:List (Str×Value)} {m:Str→Option Value},(∀ v,(x,v)∉binds)→bindL kindOf binds m x=m x
  | [],_,_=>rfl
  | (n,v) :: r,m,h=>by
    unfold bindL
    rw[bindL_out fun w hw=>h w (List.mem_cons_of_mem _ hw)]
    split
    · have:x≠n:=by rintro rfl;exact h v List.mem_cons_self
      simp [this]
    · rfl
theorem bindC_out {kindOf:Str→Option NameKind} {x:Str}:∀ {binds:List (Str×Value)} {m:Str→Option Value},(∀ v,(x,v)∉binds)→bindC kindOf binds m x=m x
  | [],_,_=>rfl
  | (n,v) :: r,m,h=>by
    unfold bindC
    rw[bindC_out fun w hw=>h w (List.mem_cons_of_mem _ hw)]
    split
    · rfl
    · have:x≠n:=by rintro rfl;exact h v List.mem_cons_self
      simp [this]
theorem bindL_get {kindOf:Str→Option NameKind} {x:Str} {v:Value}:∀ {P:List Str} {vs:List Value} {i:Nat} {m:Str→Option Value},P.Nodup→P[i]?=some x→vs[i]?=some v→kindOf x=some .local →
    bindL kindOf (P.zip vs) m x=some v
  | [],_,_,_,_,h,_,_=>by simp at h
  | _ :: _,[],_,_,_,_,h,_=>by simp at h
  | p :: P,w :: vs,0,m,nd,h1,h2,hk=>by
    simp at h1 h2;subst h1;subst h2
    show bindL kindOf ((p,w) :: P.zip vs) m p=_
    unfold bindL
    rw[bindL_out fun v hv=>(List.nodup_cons.mp nd).1 (List.of_mem_zip hv).1,if_pos hk]
    simp
  | p :: P,w :: vs,i + 1,m,nd,h1,h2,hk=>by
    show bindL kindOf ((p,w) :: P.zip vs) m x=_
    unfold bindL
    exact bindL_get (i:=i) (List.nodup_cons.mp nd).2 (by simpa using h1) (by simpa using h2) hk
theorem bindC_get {kindOf:Str→Option NameKind} {x:Str} {v:Value}:∀ {P:List Str} {vs:List Value} {i:Nat} {m:Str→Option Value},P.Nodup→P[i]?=some x→vs[i]?=some v→kindOf x≠some .local →
    bindC kindOf (P.zip vs) m x=some v
  | [],_,_,_,_,h,_,_=>by simp at h
  | _ :: _,[],_,_,_,_,h,_=>by simp at h
  | p :: P,w :: vs,0,m,nd,h1,h2,hk=>by
    simp at h1 h2;subst h1;subst h2
    show bindC kindOf ((p,w) :: P.zip vs) m p=_
    unfold bindC
    rw[bindC_out fun v hv=>(List.nodup_cons.mp nd).1 (List.of_mem_zip hv).1,if_neg hk]
    simp
  | p :: P,w :: vs,i + 1,m,nd,h1,h2,hk=>by
    show bindC kindOf ((p,w) :: P.zip vs) m x=_
    unfold bindC
    exact bindC_get (i:=i) (List.nodup_cons.mp nd).2 (by simpa using h1) (by simpa using h2) hk
def start (N:List Str) (vs:List V):St:=vs.map some++List.replicate (N.length - vs.length) none
def cxOf (CX:CXT) (P:Program) (w:World) (K:PySem.W.Frag) (mg:Str→Option Value) (base:Heap) (N:List Str) (qual:Str) (scope:Scope) (f:Addr) (cd:Value) (A:Around) (outer:List Env) (s:Shared) (H:Hp) (E:XK):Cx where
  prog:=P
  w:=w
  K:=K
  mg:=mg
  base:=base
  A:=A.deeper (envOfC qual scope s.heap.objs.size f cd)
  N:=N
  s₀:=s
  H₀:=H
  env:=envOfC qual scope s.heap.objs.size f cd
  outer:=outer
  stack:=envOfC qual scope s.heap.objs.size f cd :: outer
  ex:=[]
  calm:=true
  fn:=fun _=>true
  pn:=[]
  xe:=fun e s'=>wpAny (model P w) (A.deeper (envOfC qual scope s.heap.objs.size f cd)) (leaving (envOfC qual scope s.heap.objs.size f cd) e) (fun _ s''=>CX outer H s E e s'') (fun e' s''=>CX outer H s E e' s'') s'
theorem cell_has {sc:Scope} {n:Nat} {x:Str} (h:sc.names.lookup x=some .cell):∃ c,(cellsFrom n sc.names []).lookup x=some c:=by
  have q:=PySem.W.cellsFrom_some sc.names n [] (.inl h)
  exact Option.isSome_iff_exists.mp q
theorem inv_start {CX:CXT} {P:Program} {w:World} {K:PySem.W.Frag} {mg:Str→Option Value} {base:Heap} {N ps:List Str} {qual:Str} {scope:Scope} {f:Addr} {cd:Value} {A:Around} {outer:List Env} {s s1:Shared} {H:Hp} {E:XK} {us:List Value} {vs:List V}
    (S:FnScope N ps scope) (hd:A.handled=none) (e0:Env0 P w K mg base A outer s H) (hl:vs.length=ps.length) (r:Vals vs us)
    (x:InCallC s s.heap.objs.size (bindL (envOfC qual scope s.heap.objs.size f cd).kindOf (ps.zip us) fun _=>none) (cellsFrom (s.heap.objs.size + 1) scope.names []) (bindC (envOfC qual scope s.heap.objs.size f cd).kindOf (ps.zip us) fun _=>none) s1):
    Inv (cxOf CX P w K mg base N qual scope f cd A outer s H E) [] (start N vs) H s1:=by
  have hpl:ps.length≤N.length:=by have:=congrArg List.length S.pre;rw[List.length_take] at this;omega
  obtain ⟨h1,tk,rfl,hk⟩:=x.done
  have noA:∀ b:Addr,b∉(cxOf CX P w K mg base N qual scope f cd A outer s H E).ex:=fun b z=>absurd (show b∈([]:List Addr) from z) (by simp)
  refine ⟨⟨e0.mod,S.kind,rfl,rfl,Nat.le_refl _,fun y z c h1 h2=>?_,fun y hy=>?_,fun y c _ h=>?_,fun _=>hd,Around.frames_deeper e0.frames,.inr ⟨rfl,rfl⟩,fun b z=>absurd z (noA b),e0.bs,e0.bsz,fun b _ _=>noA b,fun b z=>absurd z (noA b),e0.funs,e0.frf⟩,
    rfl,e0.bare,Un.kept hk,⟨_,x.toInCall.ns,fun i y v h1 h2 h3=>?_⟩,fun y c h=>⟨_,x.cell y c h⟩,e0.hok.fresh (Nat.le_refl _),fun y c h=>?_,fun p hp=>absurd (show p∈([]:List (Addr×Obj)) from hp) (by simp),e0.hok.kept hk,?_⟩
  · exact name_of_addr x.apart (PySem.mem_of_lookup h1) (PySem.mem_of_lookup h2)
  · have hy:scope.names.lookup y=some .cell∨scope.names.lookup y=some .free:=hy
    rcases hy with hy | hy
    · exact cell_has hy
    · exact absurd rfl (S.nofree _ (PySem.mem_of_lookup hy))
  · exact Nat.le_of_lt (x.above y c (PySem.mem_of_lookup h))
  · have hi:i < vs.length:=by
      unfold start at h2
      by_cases hi:i < vs.length
      · exact hi
      · rw[List.getElem?_append_right (by simpa using hi)] at h2
        rw[List.getElem?_replicate] at h2
        split at h2 <;> cases h2
    have ha:vs[i]?=some v:=by
      unfold start at h2
      rw[List.getElem?_append_left (by simpa using hi),List.getElem?_map] at h2
      cases e:vs[i]? with
      | none=>rw[e] at h2;cases h2
      | some a=>rw[e] at h2;cases h2;rfl
    obtain ⟨u,hu,rv⟩:=r.get ha
    have hp:ps[i]?=some y:=by
      rw[←S.pre,List.getElem?_take_of_lt (by omega)];exact h1
    have ndP:ps.Nodup:=by rw[←S.pre];exact S.nd.sublist (List.take_sublist _ _)
    refine ⟨u,rv,?_⟩
    rcases S.par y (List.mem_of_getElem? hp) with k | k
    · exact .inl ⟨k,bindL_get ndP hp hu k⟩
    · obtain ⟨c,e⟩:=cell_has (n:=s.heap.objs.size + 1) k
      refine .inr ⟨.inl k,c,e,?_⟩
      have q:=x.cell y c e
      rw[bindC_get ndP hp hu (by show scope.names.lookup y≠_;rw[k];decide)] at q
      exact q
  · exact e0.hok.fresh (Nat.le_of_lt (x.above y c (PySem.mem_of_lookup h)))
  · unfold start
    show _=N.length
    rw[List.length_append,List.length_map,List.length_replicate]
    omega
theorem fn_of {CX:CXT} {P:Program} {w:World} {K:PySem.W.Frag} {mg:Str→Option Value} {base:Heap} {k:Nat} {f:Addr} {name qual:Str} {params:Arguments} {body:List Stmt} {scope:Scope} {dV kV doc pm cdv ct oc:Value} {an od:Option Addr}
    {osl:Array (Option Value)} {N ps:List Str} {sp:Sp} (lk:K.lookup f=some ⟨oc,od,.func (PySem.W.fnOf name qual params body scope dV kV doc pm an cdv ct),osl⟩) (hcd:PySem.W.codeIn K cdv qual=true) (S:FnScope N ps scope)
    (len:∀ vs H Q E,sp vs H Q E→vs.length=ps.length)
    (hbody:∀ (A:Around) (outer:List Env) (s:Shared) (H:Hp) (vs:List V) (Q:VK) (E:XK),Room k (A.deeper (envOfC qual scope s.heap.objs.size f cdv))→sp vs H Q E →
      ∃ t,PSs (cxOf CX P w K mg base N qual scope f cdv A outer s H E) body t∧t { nx:=fun _ H'=>Q .non H',rt:=Q } (start N vs) H):
    FnOk P w K mg base CX (k + 1) f (PySem.W.fnOf name qual params body scope dV kV doc pm an cdv ct) ps sp:=by
  refine ⟨len,fun A outer s H args us vs Q E hr e0 hb r hsp=>?_⟩
  have hl:=len _ _ _ _ hsp
  have KX:K.In s.heap:=e0.mod.kin.keeps fun b o e=>(e0.bs b o e).1
  have lim:s.heap.NoLimit:=e0.mod.nolimit.keeps fun b o e=>(e0.bs b o e).1
  have hkind:∀ y∈ps.zip us,scope.names.lookup y.1=some .local∨(scope.names.lookup y.1=some .cell∧((cellsFrom (s.heap.objs.size + 1) scope.names []).lookup y.1).isSome=true):=fun ⟨n,v⟩ hy=>by
    rcases S.par n (List.of_mem_zip hy).1 with q | q
    · exact .inl q
    · exact .inr ⟨q,PySem.W.cellsFrom_some _ _ _ (.inl q)⟩
  refine codeAny_call_function hr.depth (KX _ _ lk) rfl S.co S.gen rfl (PySem.W.codeRec_of KX hcd) (hb _ _ _ _ ?_)
  refine wpAny_newFunctionEnv_cells S.kind hkind fun env he s1 x=>?_
  subst he
  refine ⟨lim.keeps x.toInCall.keep,codeAny_func ?_⟩
  obtain ⟨t,ht,hq⟩:=hbody A outer s H vs Q E (hr.deeper _) hsp
  have I:Inv (cxOf CX P w K mg base N qual scope f cdv A outer s H E) [] (start N vs) H s1:=inv_start S hr.hd e0 hl r x
  refine wpAny_mono (ht [] s1 (start N vs) H _ I hq) (fun fl s' hs=>?_) fun e s' hs=>hs
  have fin:∀ {σ':St} {H':Hp} {v:V} {u:Value},Inv (cxOf CX P w K mg base N qual scope f cdv A outer s H E) [] σ' H' s'→RelV v u→Q v H'→CE outer P w H s Q u s':=
    fun {σ' H' v u} J rv q=>⟨v,H',J.os,J.bare,J.base,J.hok,rv,q⟩
  cases fl with
  | ret u=>
    obtain ⟨v,σ',H',J,rv,q⟩:=hs
    exact fin J rv q
  | next=>
    obtain ⟨σ',H',J,q⟩:=hs
    exact fin (v:=V.non) (u:=Value.none) J rfl q
  | brk=>
    obtain ⟨_,_,_,q⟩:=hs
    exact False.elim q
  | cont=>
    obtain ⟨_,_,_,q⟩:=hs
    exact False.elim q
end L2
namespace L2
open PySem PySem.Spec PyProof.Rows
section
variable {X:Cx} {x:Str} {p pos:Pos} {e:Expr} {es:List Expr} {t:TA} {id T:String} {r:List V→Hp→VK→Prop}
def tCB (r:List V→Hp→VK→Prop) (t:TA):TE:=fun σ H Q=>t σ H fun vs H1=>r vs H1 Q
theorem pe_callB (hc:CallR X (.builtin id) r) (hg:Gl X x) (hm:X.mg x=none) (hv:bootBuiltins x=some (.builtin id)) (ha:PA X (e :: es) t) (hn:x≠"__name__":=by decide) (hdb:(x == ("__debug__":Str))=false:=by decide)
    (he:starEach (e :: es) X.env=(false,eval e X.env) :: starEach es X.env:=by rfl) (hpl:(backTo pos (starEach es X.env)).any (·.1)=false:=by rfl):PE X (.Call (.Name x p) (e :: es) [] pos) (tCB r t):=by
  intro pins s σ H Q I h
  refine wpAny_Call_Name_kw (ld_blt I hg hm hv ?_ hn hdb)
  exact PyProof.Rows.callWith_builtin1 (thn (ha pos pins s σ H _ I h) fun us s1 ⟨vs,H1,I1,r1,q1⟩=>hc pins s1 σ H1 vs us Q I1 r1 q1) he hpl
theorem pe_callTy (hc:CallR X (.type T) r) (hg:Gl X x) (hm:X.mg x=none) (hv:bootBuiltins x=some (.type T)) (ha:PA X (e :: es) t) (hn:x≠"__name__":=by decide) (hdb:(x == ("__debug__":Str))=false:=by decide)
    (he:starEach (e :: es) X.env=(false,eval e X.env) :: starEach es X.env:=by rfl) (hpl:(backTo pos (starEach es X.env)).any (·.1)=false:=by rfl):PE X (.Call (.Name x p) (e :: es) [] pos) (tCB r t):=by
  intro pins s σ H Q I h
  refine wpAny_Call_Name_kw (ld_blt I hg hm hv ?_ hn hdb)
  exact PyProof.Rows.callWith_type1 (thn (ha pos pins s σ H _ I h) fun us s1 ⟨vs,H1,I1,r1,q1⟩=>hc pins s1 σ H1 vs us Q I1 r1 q1) he hpl
end
end L2
namespace HT
open PySem PyProof.Rows
section
open PySem.SeqAt
open PySem.AutoSeq1 (wpAny_loadPart')
open PySem.MeetsSeq PySem.MeetsSeq2 PySem.MeetsSeq3
end
section
variable {prog:Program} {w:World} {A:Around} {E:Value→Shared→Prop} {s:Shared}
def sIx (n d:Nat):Option Int→Nat
  | none=>d
  | some v=>if v < 0 then (v + (n:Int)).toNat else min v.toNat n
theorem sIx_none (n d:Nat):sIx n d none=d:=rfl
theorem sIx_nat (n d k:Nat):sIx n d (some (k:Int))=min k n:=by
  show (if (k:Int) < 0 then ((k:Int) + (n:Int)).toNat else min (k:Int).toNat n)=min k n
  rw[if_neg (by omega),Int.toNat_natCast]
theorem sIx_le (n d:Nat) (hd:d≤n) (o:Option Int):sIx n d o≤n:=by
  cases o with
  | none=>exact hd
  | some v=>
    show (if v < 0 then (v + (n:Int)).toNat else min v.toNat n)≤n
    by_cases hv:v < 0
    · rw[if_pos hv];omega
    · rw[if_neg hv];exact Nat.min_le_right _ _
theorem clip_eq (v:Int) (n d:Nat):(if v < 0 then max (v + (n:Int)) 0 else min v (n:Int))=((sIx n d (some v):Nat):Int):=by
  show (if v < 0 then max (v + (n:Int)) 0 else min v (n:Int))=(((if v < 0 then (v + (n:Int)).toNat else min v.toNat n):Nat):Int)
  by_cases hv:v < 0
  · simp only[if_pos hv];omega
  · simp only[if_neg hv];omega
end
end HT
namespace L2
open PySem PySem.Spec PyProof.Rows
abbrev TO:=St→Hp→(Option Int→Hp→Prop)→Prop
def PO (X:Cx) (e:Option Expr) (t:TO):Prop:=
  ∀ (pins:List (Addr×Obj)) (s:Shared) (σ:St) (H:Hp) (Q:Option Int→Hp→Prop),Inv X pins σ H s→t σ H Q →
    wpAny (model X.prog X.w) X.A (evalPart e X.env) (fun u s'=>∃ o H',Inv X pins σ H' s'∧IsPart u o∧Q o H') X.xe s
def tNoPart:TO:=fun _ H Q=>Q none H
def tPart (t:TE):TO:=fun σ H Q=>t σ H fun x H1=>∃ i,x=.int i∧Q (some i) H1
section
variable {X:Cx} {e:Expr} {te:TE} {lo hi:Option Expr} {tl th:TO} {pos p2:Pos}
theorem po_none:PO X none tNoPart:=by
  intro pins s σ H Q I h
  rw[evalPart_none]
  exact wpAny_pure ⟨none,H,I,.none,h⟩
theorem po_some (h:PE X e te):PO X (some e) (tPart te):=by
  intro pins s σ H Q I hw
  rw[evalPart_some]
  refine thn (h pins s σ H _ I hw) fun u s1 ⟨x,H1,I1,r1,q1⟩=>?_
  obtain ⟨i,rfl,q⟩:=q1
  obtain ⟨t,rfl⟩:=r1
  exact ⟨some i,H1,I1,.int i t,q⟩
def SlR (X:Cx) (r:V→Option Int→Option Int→Hp→VK→Prop):Prop:=
  ∀ (pins:List (Addr×Obj)) (s:Shared) (σ:St) (H:Hp) (x:V) (v vl vu:Value) (lo hi:Option Int) (sl:Addr) (Q:VK),Inv X pins σ H s→RelV x v→s.heap.IsSliceOf sl vl vu .none→IsPart vl lo→IsPart vu hi→r x lo hi H Q →
    ∃ T id,typeLookup (.type T) "__getitem__"=pure (some (.builtin id))∧s.TypeIs v T∧wpAny (model X.prog X.w) X.A (getItem v (.ref sl)) (EP X pins σ Q) X.xe s
theorem SlR.or {r r':V→Option Int→Option Int→Hp→VK→Prop} (h:SlR X r) (h':SlR X r'):SlR X (fun x lo hi H Q=>r x lo hi H Q∨r' x lo hi H Q):=by
  intro pins s σ H x v vl vu lo hi sl Q I rx hs pl pu q
  rcases q with q | q
  · exact h pins s σ H x v vl vu lo hi sl Q I rx hs pl pu q
  · exact h' pins s σ H x v vl vu lo hi sl Q I rx hs pl pu q
def tSl (r:V→Option Int→Option Int→Hp→VK→Prop) (te:TE) (tl th:TO):TE:=fun σ H Q=>te σ H fun x H1=>tl σ H1 fun l H2=>th σ H2 fun u H3=>r x l u H3 Q
theorem pe_slice {r:V→Option Int→Option Int→Hp→VK→Prop} (hr:SlR X r) (he:PE X e te) (hl:PO X lo tl) (hu:PO X hi th):PE X (.Subscript e (.Slice lo hi none p2) pos) (tSl r te tl th):=by
  intro pins s σ H Q I h
  refine Subscript_ (thn (he pins s σ H _ I h) fun v s1 ⟨x,H1,I1,r1,q1⟩=>?_)
  refine wpAny_Slice (thn (hl pins s1 σ H1 _ I1 q1) fun vl s2 ⟨l,H2,I2,pl,q2⟩=>thn (hu pins s2 σ H2 _ I2 q2) fun vu s3 ⟨u,H3,I3,pu,q3⟩=>?_)
  rw[evalPart_none]
  refine wpAny_pure ?_
  have I4:Inv X pins σ H3 { s3 with heap:=s3.heap.push { cls:=.type "slice",data:=.fields #[vl,vu,.none] } }:=I3.kept (t':=s3.toks) fun b ob q=>Heap.get?_push_of_some _ q
  obtain ⟨T,id,hT,ht,hg⟩:=hr pins { s3 with heap:=s3.heap.push { cls:=.type "slice",data:=.fields #[vl,vu,.none] } } σ H3 x v vl vu l u s3.heap.objs.size Q I4 r1 (Heap.IsSliceOf.new ..) pl pu q3
  show wpAny (model X.prog X.w) X.A (subscriptTail e (.Slice lo hi none p2) v (.ref s3.heap.objs.size)) (EP X pins σ Q) X.xe { s3 with heap:=s3.heap.push { cls:=.type "slice",data:=.fields #[vl,vu,.none] } }
  exact tail_any (ops:=[.ref s3.heap.objs.size,v]) ht hT hg (by with_unfolding_all rfl)
def cutV (xs:List V) (lo hi:Option Int):List V:=(xs.drop (HT.sIx xs.length 0 lo)).take (HT.sIx xs.length xs.length hi - HT.sIx xs.length 0 lo)
theorem cutV_length (xs:List V) (lo hi:Option Int):(cutV xs lo hi).length≤xs.length:=by
  unfold cutV
  rw[List.length_take,List.length_drop]
  omega
end
end L2
namespace L2
open PySem PySem.Spec PyProof.Rows
def ixN (n:Nat) (i:Int):Option Nat:=if 0≤i then (if i < n then some i.toNat else none) else if -(n:Int)≤i then some (i + n).toNat else none
def atI {α:Type} (xs:List α) (i:Int):Option α:=(ixN xs.length i).bind fun j=>xs[j]?
theorem ixN_seq {n:Nat} {i:Int} {j:Nat} (h:ixN n i=some j):seqIndex? i n=some j∧j < n∧-(n:Int)≤i∧i < n:=by
  unfold ixN at h
  by_cases h0:0≤i
  · rw[if_pos h0] at h
    by_cases h1:i < n
    · rw[if_pos h1] at h
      have e:i.toNat=j:=Option.some.inj h
      exact ⟨by rw[seqIndex_of h0 h1,e],by omega,by omega,h1⟩
    · rw[if_neg h1] at h;cases h
  · rw[if_neg h0] at h
    by_cases h1:-(n:Int)≤i
    · rw[if_pos h1] at h
      have e:(i + n).toNat=j:=Option.some.inj h
      exact ⟨by rw[seqIndex_neg (by omega) h1,e],by omega,h1,by omega⟩
    · rw[if_neg h1] at h;cases h
theorem atI_get {α:Type} {xs:List α} {i:Int} {v:α} (h:atI xs i=some v):∃ j,seqIndex? i xs.length=some j∧xs[j]?=some v∧j < xs.length∧-(xs.length:Int)≤i∧i < xs.length:=by
  unfold atI at h
  cases e:ixN xs.length i with
  | none=>rw[e] at h;cases h
  | some j=>
    rw[e] at h
    obtain ⟨h1,h2,h3,h4⟩:=ixN_seq e
    exact ⟨j,h1,h,h2,h3,h4⟩
def PlainIx (b:Expr):Prop:=∀ o i,subscripted b false o i=operate [o,i] (getItem o i)
def IxR (X:Cx) (r:R2):Prop:=
  ∀ (value slice:Expr) (pins:List (Addr×Obj)) (s:Shared) (σ:St) (H:Hp) (x y:V) (v u:Value) (Q:VK),Inv X pins σ H s→RelV x v→RelV y u→r x y H Q →
    subscripted slice false v u=operate [v,u] (getItem v u)→wpAny (model X.prog X.w) X.A (subscriptTail value slice v u) (EP X pins σ Q) X.xe s
def MtR (X:Cx) (id:String) (r:V→List V→Hp→VK→Prop):Prop:=
  ∀ (pins:List (Addr×Obj)) (s:Shared) (σ:St) (H:Hp) (x:V) (xs:List V) (v:Value) (us:List Value) (Q:VK),Inv X pins σ H s→RelV x v→Vals xs us→r x xs H Q →
    wpAny (model X.prog X.w) X.A (call (.builtin id) (v :: us)) (EP X pins σ Q) X.xe s
section
variable {X:Cx} {a b:Expr} {ta tb:TE} {pos:Pos}
theorem IxR.or {r r':R2} (h:IxR X r) (h':IxR X r'):IxR X (fun x y H Q=>r x y H Q∨r' x y H Q):=by
  intro value slice pins s σ H x y v u Q I rx ry q hs
  rcases q with q | q
  · exact h value slice pins s σ H x y v u Q I rx ry q hs
  · exact h' value slice pins s σ H x y v u Q I rx ry q hs
theorem MtR.or {id:String} {r r':V→List V→Hp→VK→Prop} (h:MtR X id r) (h':MtR X id r'):MtR X id (fun x xs H Q=>r x xs H Q∨r' x xs H Q):=by
  intro pins s σ H x xs v us Q I rx rs q
  rcases q with q | q
  · exact h pins s σ H x xs v us Q I rx rs q
  · exact h' pins s σ H x xs v us Q I rx rs q
theorem pe_ix {r:R2} (hr:IxR X r) (ha:PE X a ta) (hb:PE X b tb) (hs:PlainIx b):PE X (.Subscript a b pos) (tOp r ta tb):=by
  intro pins s σ H Q I h
  exact Subscript_ (binT ha hb I h fun v u s2 x y H2 I2 rx ry q=>hr a b pins s2 σ H2 x y v u Q I2 rx ry q (hs _ _))
def rIxL (K:PySem.W.Frag):R2:=fun x y H Q=>∃ p xs i v,x=.ref p∧y=.int i∧SqL K H p xs∧atI xs i=some v∧Q v H
def rIxS:R2:=fun x y H Q=>∃ z i c,x=.str z∧y=.int i∧z.length≤sizeLine∧atI z.cps.toList i=some c∧Q (.str ⟨#[c]⟩) H
theorem ix_list:IxR X (rIxL X.K):=by
  intro value slice pins s σ H x y v u Q I rx ry h hs
  obtain ⟨p,xs,i,z,rfl,rfl,hq,he,q⟩:=h
  cases rx
  obtain ⟨t,rfl⟩:=ry
  obtain ⟨its,r,pl,hz⟩:=I.list hq
  obtain ⟨j,h1,h2,h3,h4,h5⟩:=atI_get he
  obtain ⟨w,ew,rw'⟩:=r.get h2
  have hl:=r.length
  have hn:=line63
  have fin:EP X pins σ Q w s:=⟨z,H,I,rw',q⟩
  by_cases h0:0≤i
  · have hj:i.toNat=j:=by
      rw[seqIndex_of h0 h5] at h1
      exact Option.some.inj h1
    exact item_listR pl.isList h0 (by omega) (by rw[hj];simpa using ew) fin hs
  · have hj:(i + (its.toArray.size:Int)).toNat=j:=by
      rw[seqIndex_neg (by omega) h4] at h1
      rw[List.size_toArray,←hl]
      exact Option.some.inj h1
    exact subscriptTail_builtinR (x:=w) pl.isList.typeIs slot_list_getitem.lookup
      (wpAny_getItem_list_neg (Q:=fun r s'=>r=w∧EP X pins σ Q r s') pl.isList (by omega) (by rw[List.size_toArray] <;> omega) (by omega) (by rw[hj];simpa using ew) ⟨rfl,fin⟩) hs
theorem ix_str:IxR X rIxS:=by
  intro value slice pins s σ H x y v u Q I rx ry h hs
  obtain ⟨z,i,c,rfl,rfl,hz,he,q⟩:=h
  obtain ⟨t,rfl⟩:=rx
  obtain ⟨t',rfl⟩:=ry
  obtain ⟨j,h1,h2,h3,h4,h5⟩:=atI_get he
  have hl:z.cps.toList.length=z.length:=by simp [Str.length]
  rw[hl] at h1 h4 h5
  have hn:=line63
  exact tail_any (typeIs_str s z t) slot_str_getitem.lookup (getItem_str (c:=c) (by
    have e1:decide (i < -(2 ^ 63:Int))=false:=decide_eq_false (by omega)
    have e2:decide (i≥2 ^ 63)=false:=decide_eq_false (by omega)
    rw[e1,e2,Bool.or_false]) (by rw[h1];simpa using h2) ⟨.str ⟨#[c]⟩,H,I.tok _,⟨_,rfl⟩,q⟩) hs
theorem Inv.lst {pins:List (Addr×Obj)} {σ:St} {H:Hp} {s:Shared} {p:Addr} {xs:List V} (I:Inv X pins σ H s) (h:H p=some (.lst xs)):
    ∃ (its:List Value) (n:Nat),Vals xs its∧s.heap.get? p=some { cls:=.type "list",data:=.seq its.toArray n }∧xs.length≤sizeLine:=by
  obtain ⟨z,its,n,r,e⟩:=I.hok p _ h
  exact ⟨its,n,r,e,z⟩
theorem slice_bounds (lo hi:Option Int) (n:Nat):(sliceBounds lo hi none n).1=((HT.sIx n 0 lo:Nat):Int)∧(sliceBounds lo hi none n).2.1=((HT.sIx n n hi:Nat):Int)∧(sliceBounds lo hi none n).2.2=1:=by
  refine ⟨?_,?_,rfl⟩
  · cases lo with
    | none=>simp [sliceBounds,HT.sIx]
    | some i=>
      simp only[sliceBounds,HT.sIx,Option.getD_none,show (1:Int) > 0 by decide,if_true]
      by_cases h:i < 0
      · simp only[h,if_true] <;> omega
      · simp only[h,if_false] <;> omega
  · cases hi with
    | none=>simp [sliceBounds,HT.sIx]
    | some i=>
      simp only[sliceBounds,HT.sIx,Option.getD_none,show (1:Int) > 0 by decide,if_true]
      by_cases h:i < 0
      · simp only[h,if_true] <;> omega
      · simp only[h,if_false] <;> omega
theorem slicePick_cut (its:List Value) (lo hi:Option Int):slicePick its.toArray lo hi none=((its.drop (HT.sIx its.length 0 lo)).take (HT.sIx its.length its.length hi - HT.sIx its.length 0 lo)).toArray:=by
  obtain ⟨h1,h2,h3⟩:=slice_bounds lo hi its.toArray.size
  unfold slicePick
  rw[h1,h2,h3]
  simp only[sliceRange_one,pick_run,List.size_toArray] <;> rfl
def rSlL (K:PySem.W.Frag):V→Option Int→Option Int→Hp→VK→Prop:=fun x lo hi H Q=>∃ a xs,x=.ref a∧SqL K H a xs∧∀ p,H p=none→Q (.ref p) (upd H p (.lst (cutV xs lo hi)))
theorem sl_list:SlR X (rSlL X.K):=by
  intro pins s σ H x v vl vu lo hi sl Q I rx hs pl pu h
  obtain ⟨a,xs,rfl,hx,q⟩:=h
  cases rx
  obtain ⟨its,r,ht,hz⟩:=I.list hx
  have hlen:=r.length
  refine ⟨"list",_,slot_list_getitem.lookup,ht.isList.typeIs,?_⟩
  refine wpAny_getItem_list_slice ht.isList hs pl pu .none (by simp) ?_ (by rw[List.size_toArray] <;> omega)
  rw[slicePick_cut,←hlen]
  refine ⟨.ref s.heap.objs.size,_,I.laid (t':=s.toks) (o:=.lst (cutV xs lo hi)) (fun b ob q=>Heap.get?_push_of_some _ q) (Nat.le_refl _) ?_,rfl,q _ (I.hok.fresh (Nat.le_refl _))⟩
  exact ⟨Nat.le_trans (cutV_length xs lo hi) hz,_,0,(r.drop (HT.sIx xs.length 0 lo)).take (HT.sIx xs.length xs.length hi - HT.sIx xs.length 0 lo),Heap.get?_push_size _ rfl⟩
def flatV:V→Bool
  | .non=>true
  | .bl _=>true
  | .int _=>true
  | .str _=>true
  | _=>false
def eqV:V→V→Bool
  | .non,.non=>true
  | .bl a,.bl b=>a == b
  | .bl a,.int b=>(if a then 1 else 0) == b
  | .int a,.bl b=>a == (if b then 1 else 0)
  | .int a,.int b=>a == b
  | .str a,.str b=>a == b
  | _,_=>false
theorem eqAt_V {A:Around} {s:Shared} {y x:V} {u v:Value} (ry:RelV y u) (rx:RelV x v) (fy:flatV y=true) (fx:flatV x=true):SeqAt.EqAt A s u v (eqV y x):=by
  cases y with
  | non=>
    cases ry
    cases x with
    | non=>cases rx;exact SeqAt.EqAt.same _
    | bl b=>cases rx;exact SeqAt.EqAt.none_bool b
    | int b=>obtain ⟨t,rfl⟩:=rx;exact SeqAt.EqAt.none_int b t
    | str b=>obtain ⟨t,rfl⟩:=rx;exact SeqAt.EqAt.none_str b t
    | _=>exact absurd (show false=true from fx) Bool.false_ne_true
  | bl a=>
    cases ry
    cases x with
    | non=>cases rx;exact SeqAt.EqAt.bool_none a
    | bl b=>cases rx;exact SeqAt.EqAt.bool_bool a b
    | int b=>obtain ⟨t,rfl⟩:=rx;exact SeqAt.EqAt.bool_int a b t
    | str b=>obtain ⟨t,rfl⟩:=rx;exact SeqAt.EqAt.bool_str a b t
    | _=>exact absurd (show false=true from fx) Bool.false_ne_true
  | int a=>
    obtain ⟨t',rfl⟩:=ry
    cases x with
    | non=>cases rx;exact SeqAt.EqAt.int_none a t'
    | bl b=>cases rx;exact SeqAt.EqAt.int_bool a t' b
    | int b=>obtain ⟨t,rfl⟩:=rx;exact SeqAt.EqAt.int_int a t' b t
    | str b=>obtain ⟨t,rfl⟩:=rx;exact SeqAt.EqAt.int_str a t' b t
    | _=>exact absurd (show false=true from fx) Bool.false_ne_true
  | str a=>
    obtain ⟨t',rfl⟩:=ry
    cases x with
    | non=>cases rx;exact SeqAt.EqAt.str_none a t'
    | bl b=>cases rx;exact SeqAt.EqAt.str_bool a t' b
    | int b=>obtain ⟨t,rfl⟩:=rx;exact SeqAt.EqAt.str_int a t' b t
    | str b=>obtain ⟨t,rfl⟩:=rx;exact SeqAt.EqAt.str_str a t' b t
    | _=>exact absurd (show false=true from fx) Bool.false_ne_true
  | _=>exact absurd (show false=true from fy) Bool.false_ne_true
def eqU (x:V) (u:Value):Bool:=match u with
  | .none=>eqV .non x
  | .bool b=>eqV (.bl b) x
  | .int i _=>eqV (.int i) x
  | .str z _=>eqV (.str z) x
  | _=>false
theorem eqU_of {x y:V} {u:Value} (r:RelV y u) (f:flatV y=true):eqU x u=eqV y x:=by
  cases y with
  | non=>cases r;rfl
  | bl b=>cases r;rfl
  | int i=>obtain ⟨t,rfl⟩:=r;rfl
  | str z=>obtain ⟨t,rfl⟩:=r;rfl
  | _=>exact absurd (show false=true from f) Bool.false_ne_true
theorem any_eqU {x:V}:∀ {xs:List V} {us:List Value},Vals xs us→xs.all flatV=true→us.any (eqU x)=xs.any fun y=>eqV y x
  | _,_,.nil,_=>rfl
  | y :: xs,u :: us,.cons r t,f=>by
    rw[List.all_cons,Bool.and_eq_true] at f
    rw[List.any_cons,List.any_cons,eqU_of r f.1,any_eqU t f.2]
theorem mem_eqAt {A:Around} {s:Shared} {x:V} {v:Value} (rx:RelV x v) (fx:flatV x=true):∀ {xs:List V} {us:List Value},Vals xs us→xs.all flatV=true→∀ u∈us,SeqAt.EqAt A s u v (eqU x u)
  | _,_,.nil,_=>fun u hu=>by cases hu
  | y :: xs,u :: us,.cons r t,f=>fun u' hu=>by
    rw[List.all_cons,Bool.and_eq_true] at f
    rcases List.mem_cons.mp hu with rfl | hu
    · rw[eqU_of r f.1];exact eqAt_V r rx f.1 fx
    · exact mem_eqAt rx fx t f.2 u' hu
def inV (x:V) (xs:List V):Bool:=xs.any fun y=>eqV y x
def rIn (K:PySem.W.Frag) (neg:Bool):R2:=fun x y H Q=>∃ p xs,y=.ref p∧(SqL K H p xs∨SqT K H p xs)∧flatV x=true∧xs.all flatV=true∧Q (.bl (if neg then !inV x xs else inV x xs)) H
theorem op_in_seq:OpR X (compareOp .In) (rIn X.K false):=by
  intro pins s σ H x y v u Q I rx ry h
  obtain ⟨p,xs,rfl,hq,fx,fs,q⟩:=h
  cases ry
  rcases hq with hq | hq
  · obtain ⟨its,r,pl,hz⟩:=I.list hq
    refine SeqAt.in_listAt (eqU x) pl.isList (fun w hw=>mem_eqAt rx fx r fs w (by simpa using hw)) ⟨.bl _,H,I,rfl,?_⟩
    rw[show its.toArray.any (eqU x)=its.any (eqU x) by simp,any_eqU r fs]
    exact q
  · obtain ⟨its,r,pl,hz⟩:=I.tuple hq
    refine SeqAt.in_tupleAt (eqU x) pl (fun w hw=>mem_eqAt rx fx r fs w (by simpa using hw)) ⟨.bl _,H,I,rfl,?_⟩
    rw[show its.toArray.any (eqU x)=its.any (eqU x) by simp,any_eqU r fs]
    exact q
theorem op_notIn_seq:OpR X (compareOp .NotIn) (rIn X.K true):=by
  intro pins s σ H x y v u Q I rx ry h
  obtain ⟨p,xs,rfl,hq,fx,fs,q⟩:=h
  cases ry
  rcases hq with hq | hq
  · obtain ⟨its,r,pl,hz⟩:=I.list hq
    refine SeqAt.notIn_listAt (eqU x) pl.isList (fun w hw=>mem_eqAt rx fx r fs w (by simpa using hw)) ⟨.bl _,H,I,rfl,?_⟩
    rw[show its.toArray.any (eqU x)=its.any (eqU x) by simp,any_eqU r fs]
    exact q
  · obtain ⟨its,r,pl,hz⟩:=I.tuple hq
    refine SeqAt.notIn_tupleAt (eqU x) pl (fun w hw=>mem_eqAt rx fx r fs w (by simpa using hw)) ⟨.bl _,H,I,rfl,?_⟩
    rw[show its.toArray.any (eqU x)=its.any (eqU x) by simp,any_eqU r fs]
    exact q
theorem CallR.or {f:Value} {r r':List V→Hp→VK→Prop} (h:CallR X f r) (h':CallR X f r'):CallR X f (fun xs H Q=>r xs H Q∨r' xs H Q):=by
  intro pins s σ H xs us Q I rs q
  rcases q with q | q
  · exact h pins s σ H xs us Q I rs q
  · exact h' pins s σ H xs us Q I rs q
def tyV (K:PySem.W.Frag) (T:String) (x:V) (H:Hp):Prop:=match x with
  | .str _=>T="str"
  | .int _=>T="int"
  | .ref p=>(T="list"∧∃ xs,SqL K H p xs)∨(T="tuple"∧∃ o,K.lookup p=some o∧o.cls=.type "tuple"∧o.dict=none) ∨
      (T="dict"∧((∃ kvs,H p=some (.dK kvs))∨∃ kvs,H p=some (.dT kvs)))∨(T="set"∧∃ S n,H p=some (.set S n))
  | _=>False
theorem tyV_is {pins:List (Addr×Obj)} {σ:St} {H:Hp} {s:Shared} {T:String} {x:V} {v:Value} (I:Inv X pins σ H s) (r:RelV x v) (ty:tyV X.K T x H):
    s.TypeIs v T∧∀ a,v=.ref a→∃ ob,s.heap.get? a=some ob∧ob.dict=none:=by
  cases x with
  | str z=>
    obtain ⟨t,rfl⟩:=r
    cases (show T="str" from ty)
    exact ⟨typeIs_str s z t,fun _ e=>nomatch e⟩
  | int i=>
    obtain ⟨t,rfl⟩:=r
    cases (show T="int" from ty)
    exact ⟨typeIs_int s i t,fun _ e=>nomatch e⟩
  | ref p=>
    cases r
    rcases ty with ⟨rfl,xs,hq⟩ | ⟨rfl,o,hk,hc,hd⟩ | ⟨rfl,hk⟩ | ⟨rfl,S,n,hk⟩
    · obtain ⟨its,_,pl,_⟩:=I.list hq
      refine ⟨pl.isList.typeIs,fun a e=>?_⟩
      cases e
      obtain ⟨o,n,e,c,hd,_⟩:=pl
      exact ⟨o,e,hd⟩
    · refine ⟨⟨o,I.kIn p o hk,hc⟩,fun a e=>?_⟩
      cases e
      exact ⟨o,I.kIn _ o hk,hd⟩
    · have z:∃ o,s.heap.get? p=some o∧o.ExactDict:=by
        rcases hk with ⟨kvs,hk⟩ | ⟨kvs,hk⟩
        · obtain ⟨_,_,_,_,o,_,_,e,ex,_⟩:=I.hok p _ hk
          exact ⟨o,e,ex⟩
        · obtain ⟨_,_,_,_,o,_,_,e,ex,_⟩:=I.hok p _ hk
          exact ⟨o,e,ex⟩
      obtain ⟨o,e,ex⟩:=z
      refine ⟨⟨o,e,ex.1⟩,fun a e2=>?_⟩
      cases e2
      exact ⟨o,e,ex.2.1⟩
    · obtain ⟨o,_,_,_,e,ex,_⟩:=I.hok p _ hk
      refine ⟨⟨o,e,ex.1⟩,fun a e2=>?_⟩
      cases e2
      exact ⟨o,e,ex.2.1⟩
  | _=>exact False.elim ty
def tBM0 (K:PySem.W.Frag) (T:String) (r:V→List V→Hp→VK→Prop) (to:TE):TE:=fun σ H Q=>to σ H fun x H1=>tyV K T x H1∧r x [] H1 Q
def tBM (K:PySem.W.Frag) (T:String) (r:V→List V→Hp→VK→Prop) (to:TE) (t:TA):TE:=fun σ H Q=>to σ H fun x H1=>tyV K T x H1∧t σ H1 fun xs H2=>r x xs H2 Q
variable {o e:Expr} {es:List Expr} {to:TE} {t:TA} {name:Str} {apos cpos:Pos} {T id:String} {r:V→List V→Hp→VK→Prop}
theorem pe_bm0 (pa:PlainAttrs T) (slot:Slot T name id) (hty:typeOf (.builtin id)=pure (.type "method_descriptor")) (hm:MtR X id r) (ho:PE X o to)
    (hbase:attributeBase o name X.env (eval o X.env)=eval o X.env:=by rfl) (hline:(apos.endLine == cpos.line)=true:=by rfl):PE X (.Call (.Attribute o name apos) [] [] cpos) (tBM0 X.K T r to):=by
  intro pins s σ H Q I h
  refine wpAny_Call_method0_late hbase hline (thn (ho pins s σ H _ I h) fun v s1 ⟨x,H1,I1,r1,ty,q1⟩=>?_)
  obtain ⟨h1,h2⟩:=tyV_is I1 r1 ty
  exact ⟨T,id,pa,slot,hty,h1,h2,Calls.callWith_builtin rfl (PySem.evalArgs_none (hm pins s1 σ H1 x [] v [] Q I1 r1 .nil q1))⟩
theorem pe_bm (pa:PlainAttrs T) (slot:Slot T name id) (hty:typeOf (.builtin id)=pure (.type "method_descriptor")) (hm:MtR X id r) (ho:PE X o to) (ha:PA X (e :: es) t)
    (hbase:attributeBase o name X.env (eval o X.env)=eval o X.env:=by rfl)
    (hfew:((backTo cpos (starEach (e :: es) X.env)).all (fun x=>!x.1)&&(backToKw cpos (keywordEach [] X.env)).all (fun x=>x.1.isSome)
      && decide ((e :: es).length + ([]:List Keyword).length + (if ([]:List Keyword).isEmpty then 0 else 1) < 30))=true:=by rfl)
    (hline:(apos.endLine == cpos.line)=true:=by rfl) (hs:starEach (e :: es) X.env=(false,eval e X.env) :: starEach es X.env:=by rfl) (hplain:(backTo cpos (starEach es X.env)).any (·.1)=false:=by rfl):
    PE X (.Call (.Attribute o name apos) (e :: es) [] cpos) (tBM X.K T r to t):=by
  intro pins s σ H Q I h
  refine wpAny_Call_method_late hbase hfew hline rfl (thn (ho pins s σ H _ I h) fun v s1 ⟨x,H1,I1,r1,ty,q1⟩=>?_)
  obtain ⟨h1,h2⟩:=tyV_is I1 r1 ty
  refine ⟨T,id,pa,slot,hty,h1,h2,?_⟩
  have hA:=ha cpos pins s1 σ H1 _ I1 q1
  rw[hs] at hA ⊢
  refine Calls.callWith_builtin (by show (false || (backTo cpos (starEach es X.env)).any (·.1))=false;rw[hplain] <;> rfl) (Calls.evalArgs_plain ?_)
  exact thn hA fun us s2 ⟨vs,H2,I2,r2,q2⟩=>hm pins s2 σ H2 x vs v us Q I2 r1 r2 q2
end
end L2
namespace L2
open PySem PySem.Spec PyProof.Rows
def MtM (X:Cx) (id:String) (r:V→List V→Hp→VK→Prop):Prop:=
  ∀ (pins:List (Addr×Obj)) (s:Shared) (σ:St) (H:Hp) (x:V) (xs:List V) (v:Value) (us:List Value) (Q:VK),Inv X pins σ H s→RelV x v→Vals xs us→r x xs H Q →
    wpAny (model X.prog X.w) X.A (call (.builtin id) (v :: us)) (EP X pins σ Q) X.xe s
theorem Vals.one:∀ {x:V} {us:List Value},Vals [x] us→∃ u,us=[u]∧RelV x u
  | _,_,.cons r .nil=>⟨_,rfl,r⟩
theorem Vals.two:∀ {x y:V} {us:List Value},Vals [x,y] us→∃ u v,us=[u,v]∧RelV x u∧RelV y v
  | _,_,_,.cons r (.cons q .nil)=>⟨_,_,rfl,r,q⟩
theorem Vals.zero:∀ {us:List Value},Vals [] us→us=[]
  | _,.nil=>rfl
theorem Vals.dropLast {xs:List V} {us:List Value} (h:Vals xs us):Vals xs.dropLast us.dropLast:=by
  induction h with
  | nil=>exact .nil
  | cons r t ih=>
    cases t with
    | nil=>exact .nil
    | cons q t'=>exact .cons r ih
theorem Vals.eraseIdx:∀ {xs:List V} {us:List Value} (i:Nat),Vals xs us→Vals (xs.eraseIdx i) (us.eraseIdx i)
  | _,_,_,.nil=>.nil
  | _,_,0,.cons _ t=>t
  | _,_,i + 1,.cons r t=>.cons r (Vals.eraseIdx i t)
theorem Vals.reverse {xs:List V} {us:List Value} (h:Vals xs us):Vals xs.reverse us.reverse:=by
  induction h with
  | nil=>exact .nil
  | cons r t ih=>rw[List.reverse_cons,List.reverse_cons];exact Vals.append ih (.cons r .nil)
section
variable {X:Cx} {pins:List (Addr×Obj)} {σ:St} {H:Hp} {s:Shared} {l b:Addr} {xs ys zs:List V}
theorem Inv.lset {its its':List Value} {n:Nat} {f:Array Value→Array Value} {t':Nat} (I:Inv X pins σ H s) (hH:H l=some (.lst xs))
    (e:s.heap.get? l=some { cls:=.type "list",data:=.seq its.toArray n }) (hf:f its.toArray=its'.toArray) (hv:Vals ys its') (hz:ys.length≤sizeLine):
    Inv X pins σ (upd H l (.lst ys)) { s with heap:=s.heap.update l (Obj.mapSeq f),toks:=t' }:=by
  have q:=PySem.IsL.update e f
  rw[hf] at q
  refine I.write (x:=l) (e:=l) (by rw[hH];exact trivial) (.inl rfl) (fun b' u hb hu=>(Heap.get?_update_other s.heap (Obj.mapSeq f) (Ne.symm hb)).trans hu) ⟨_,q⟩ ?_
  exact ⟨hz,its',_,hv,q⟩
theorem Inv.lnew {its:List Value} {t':Nat} (I:Inv X pins σ H s) (hv:Vals ys its) (hz:ys.length≤sizeLine):
    Inv X pins σ (upd H s.heap.objs.size (.lst ys)) { s with heap:=s.heap.push { cls:=.type "list",data:=.seq its.toArray },toks:=t' }:=
  I.laid (fun _ _ q=>Heap.get?_push_of_some _ q) (Nat.le_refl _) ⟨hz,its,0,hv,Heap.get?_push_size _ rfl⟩
theorem Inv.fresh (I:Inv X pins σ H s):H s.heap.objs.size=none:=I.hok.fresh (Nat.le_refl _)
theorem Inv.lstM (I:Inv X pins σ H s) (hH:H l=some (.lst xs)):xs.length≤sizeLine∧∃ (its:List Value) (n:Nat),Vals xs its∧xs.length=its.length∧s.heap.get? l=some { cls:=.type "list",data:=.seq its.toArray n }:=by
  obtain ⟨z,its,n,r,e⟩:=I.hok l _ hH
  exact ⟨z,its,n,r,r.length,e⟩
theorem notLongL {n:Nat} (h:n≤sizeLine):Builtin.List.listTooLong n=false:=by
  unfold Builtin.List.listTooLong
  exact decide_eq_false (by omega)
end
section
variable {X:Cx}
def rAppend:V→List V→Hp→VK→Prop:=fun x vs H Q=>∃ l xs y,x=.ref l∧vs=[y]∧H l=some (.lst xs)∧xs.length < sizeLine∧Q .non (upd H l (.lst (xs++[y])))
theorem mt_append:MtM X "list.append" rAppend:=by
  intro pins s σ H x vs v us Q I rx rv h
  obtain ⟨l,xs,y,rfl,rfl,hH,hz,q⟩:=h
  cases rx
  obtain ⟨u,rfl,ru⟩:=rv.one
  obtain ⟨z,its,n,r,hl,e⟩:=I.lstM hH
  refine call_meets F.slot_list_append ⟨_,e,rfl⟩ F.entry_list_append (F.args_list_append_2 _ _) (PySem.list_append l its.toArray n u (by rw[List.size_toArray];omega)) ⟨e,?_⟩
  refine ⟨.non,_,I.lset (its':=its++[u]) hH e (by simp) (r.append (.cons ru .nil)) ?_,rfl,q⟩
  rw[List.length_append,List.length_singleton]
  omega
def rExtend:V→List V→Hp→VK→Prop:=fun x vs H Q=>∃ l b xs zs,x=.ref l∧vs=[.ref b]∧H l=some (.lst xs)∧H b=some (.lst zs)∧xs.length + zs.length≤sizeLine∧Q .non (upd H l (.lst (xs++zs)))
theorem mt_extend:MtM X "list.extend" rExtend:=by
  intro pins s σ H x vs v us Q I rx rv h
  obtain ⟨l,b,xs,zs,rfl,rfl,hH,hB,hz,q⟩:=h
  cases rx
  obtain ⟨u,rfl,ru⟩:=rv.one
  cases ru
  obtain ⟨z,its,n,r,hl,e⟩:=I.lstM hH
  obtain ⟨z2,its2,n2,r2,hl2,e2⟩:=I.lstM hB
  have hsz:its.toArray.size + its2.toArray.size≤sizeLine:=by rw[List.size_toArray,List.size_toArray];omega
  have hlong:¬ (!its.toArray.isEmpty&&Builtin.List.listTooLong (its.toArray.size + its2.toArray.size))=true:=by
    rw[notLongL hsz,Bool.and_false]
    exact Bool.false_ne_true
  refine call_meets F.slot_list_extend ⟨_,e,rfl⟩ F.entry_list_extend (F.args_list_extend_2 _ _)
    (AutoSeq1.list_extend_list_list_0 l its.toArray n b its2.toArray n2 hlong (by rw[List.size_toArray];omega) (by omega)) ⟨e,e2,?_⟩
  refine ⟨.non,_,I.lset (its':=its++its2) hH e (by simp) (r.append r2) ?_,rfl,q⟩
  rw[List.length_append]
  omega
def rClear:V→List V→Hp→VK→Prop:=fun x vs H Q=>∃ l xs,x=.ref l∧vs=[]∧H l=some (.lst xs)∧Q .non (upd H l (.lst []))
theorem mt_clear:MtM X "list.clear" rClear:=by
  intro pins s σ H x vs v us Q I rx rv h
  obtain ⟨l,xs,rfl,rfl,hH,q⟩:=h
  cases rx
  have hus:=rv.zero
  subst hus
  obtain ⟨z,its,n,r,hl,e⟩:=I.lstM hH
  refine call_meets F.slot_list_clear ⟨_,e,rfl⟩ F.entry_list_clear (F.args_list_clear_1 _) (AutoSeq1.list_clear_list_0 l its.toArray n (by rw[List.size_toArray];omega)) ⟨e,?_⟩
  exact ⟨.non,_,I.lset (its':=[]) (ys:=[]) hH e rfl .nil (Nat.zero_le _),rfl,q⟩
def rCat:R2:=fun x y H Q=>∃ l b xs zs,x=.ref l∧y=.ref b∧H l=some (.lst xs)∧H b=some (.lst zs)∧xs.length + zs.length≤sizeLine∧∀ p,H p=none→Q (.ref p) (upd H p (.lst (xs++zs)))
theorem op_cat:OpR X (binaryOp .Add) rCat:=by
  intro pins s σ H x y v u Q I rx ry h
  obtain ⟨l,b,xs,zs,rfl,rfl,hH,hB,hz,q⟩:=h
  cases rx
  cases ry
  obtain ⟨z,its,n,r,hl,e⟩:=I.lstM hH
  obtain ⟨z2,its2,n2,r2,hl2,e2⟩:=I.lstM hB
  refine PySem.P.add_list e e2 ?_ (by rw[List.size_toArray,List.size_toArray];omega)
  have ea:its.toArray++its2.toArray=(its++its2).toArray:=by simp
  rw[ea]
  exact ⟨.ref _,_,I.lnew (t':=s.toks) (r.append r2) (by rw[List.length_append];omega),rfl,q _ I.fresh⟩
end
section
variable {prog:Program} {w:World} {A:Around} {E:Value→Shared→Prop} {s:Shared}
end
section
variable {X:Cx}
end
end L2
namespace Att
open PySem PySem.W PySem.Calls PyProof.Rows
theorem ints_of_wellAll {P:Params} {h:Heap}:∀ (ns:List Int) (vs:List Value),WellAll P h vs (ns.map WData.int)→IntsAre vs ns:=by
  intro ns
  induction ns with
  | nil=>
    intro vs w
    rw[List.map_nil] at w
    cases w
    exact .nil
  | cons n ns ih=>
    intro vs w
    rw[List.map_cons] at w
    cases w with
    | cons a b=>
      cases a
      exact .cons _ _ (ih _ b)
theorem script_of {l:OpenLaw} {n:Nat} (hn:l.most=some n) {P:Params} {h:Heap} {args:List WData} {vals:List Value}
    (hpre:l.row.toRowW.claim.pre args=true) (hwl:WellAll P h vals args):
    ∃ a vs ns,vals=[Value.ref a]∧args=[WData.list (ns.map WData.int)]∧h.get? a=some { cls:=.type "list",data:=.seq vs.toArray }∧IntsAre vs ns∧ns.length≤n:=by
  have hsh:WShape.hasAll [] args [.list .int]=true:=(pre_splitW hpre).1
  have hc:l.pre.holds [] { args:=args }=true:=(pre_splitW hpre).2
  obtain ⟨d,r,rfl,h1,h2⟩:=hasAllW_cons hsh
  obtain rfl:=hasAllW_nil h2
  obtain ⟨xs,rfl,h3⟩:=hasW_list h1
  obtain ⟨ns,rfl⟩:=items_int h3
  have hlen:ns.length≤n:=by
    unfold OpenLaw.pre at hc
    have h4:(WTm.not (.lt (.lit (.int (n:Int))) (.len (.arg 0)))).holds [] { args:=[.list (ns.map .int)] }=true:=by
      have h4:=(holds_andW hc).1
      rw[hn] at h4
      exact h4
    have h5:=condW_of h4 (w_not (w_lt w_lit (w_len_list (w_arg rfl))))
    rw[List.length_map] at h5
    refine Nat.le_of_not_lt fun q=>?_
    have q':(n:Int) < ((ns.length:Nat):Int):=by omega
    first
      | (rw[decide_eq_true q'] at h5;exact absurd h5 (by decide))
      | (simp at h5;omega)
  cases hwl with
  | cons w1 w2=>
    cases w2
    cases w1 with
    | list ho hall=>exact ⟨_,_,ns,rfl,rfl,ho,ints_of_wellAll ns _ hall,hlen⟩
theorem post_true (l:OpenLaw) (args:List WData):l.row.toRowW.claim.post args (.bool true) args=true:=
  postW_of (r:=l.row.toRowW) (X:=(true == true))
    (show WShape.has [] (.bool true) .bool=true by first | rfl | decide | simp [WShape.has,WShape.arms,WShape.armsAll])
    (show (WTm.eq .res (.lit (.bool true))).value [] { args:=args,res:=some (.bool true),after:=args }=some (.bool (true == true)) from w_eq_bool (w_res rfl) w_lit) rfl
theorem attach_call {l:OpenLaw} {n:Nat} {q:Program} {loose:List Str} {XP:(Str→Option Value)→Heap→Prop} {YP:World→Heap→Prop} {d:DefRec}
    (hn:l.most=some n) (hdf:d.params.defaults=[])
    (call:∀ (w:World) (s₀ s₁:Shared) (mg mb:Str→Option Value) (fa:Addr) (o:Obj) (pm cd doc:Value) (a:Addr) (vs:List Value) (ns:List Int),
      Ground q loose [] XP w s₀ mg mb s₁.heap→YP w s₁.heap →
      s₁.heap.get? fa=some o→o.data=.func (docDef d.name d.params d.body d.scope pm cd doc)→s₁.heap.CodeRec cd d.name→mg d.name=some (.ref fa) →
      s₁.heap.get? a=some { cls:=.type "list",data:=.seq vs.toArray }→IntsAre vs ns→ns.length≤n→s₁.gens=#[] →
      codeAny (model l.prog w) callerA (.call (.ref fa) ⟨[.ref a],[]⟩) (fun r s'=>r=.ok (.ret (.bool true))∧OldK s₁.heap s'.heap∧s'.os=s₁.os∧AllBare s'.gens) s₁):
    WalkO q loose XP YP l.row.toRowW d [] (fun f vs=>PySem.call f vs):=by
  intro w s₀ s₁ mg mb G Y fa o pm cd doc dV kV ho hd hcd hD hmg hg args vals as hpre hlay hrd hwl hlo
  obtain rfl:dV=.none:=Dflts.none hD hdf
  obtain rfl:kV=.none:=Dflts.noKw hD
  obtain ⟨a,vs,ns,rfl,rfl,hobj,hints,hlen⟩:=script_of hn hpre hwl
  refine enter_call (codeAny_mono (call w s₀ s₁ mg mb fa o pm cd doc a vs ns G Y ho (fd_plain hd) hcd hmg hobj hints hlen hg) fun r s' hq=>?_)
  obtain ⟨rfl,h2,h3,h4⟩:=hq
  exact ⟨.inl ⟨.bool true,.bool true,[],rfl,fun _=>rfl,.bool true,post_true l _,fun _=>⟨List.Pairwise.nil,fun _ hm=>(nomatch hm)⟩⟩,h2,h3,h4⟩
section
variable {prog:Program} {w:World} {A:Around} {E:Value→Shared→Prop} {s:Shared} {K:Frag}
def ledger (h:Heap) (L d:Addr):List (Addr×Obj):=(List.range h.objs.size).filterMap fun a=>if a=L∨a=d then none else (h.get? a).map fun o=>(a,o)
end
end Att
namespace L2
open PySem PySem.Spec PyProof.Rows
theorem vals_ints:∀ {vs:List Value} {ns:List Int},IntsAre vs ns→Vals (ns.map V.int) vs
  | _,_,.nil=>.nil
  | _,_,.cons n t h=>.cons ⟨t,rfl⟩ (vals_ints h)
def Only (H:Hp):Prop:=∀ b,H b=none∨∃ o xs,H b=some (.frz o (.lst xs))
theorem law_call {P:Program} {w:World} {K:PySem.W.Frag} {mg mb:Str→Option Value} {CX:CXT} {k:Nat} {fa a:Addr} {fd:FuncData} {x:Str} {sp:Sp} {s₁:Shared} {vs:List Value} {ns:List Int}
    (KX:K.In s₁.heap) (hns:s₁.heap.Ns mainGlobals mg) (hb:s₁.heap.Ns builtinsNs mb) (hbb:∀ x:Str,x≠"__name__"→mb x=bootBuiltins x) (hlim:s₁.heap.NoLimit) (hg:s₁.gens=#[])
    (ha:s₁.heap.get? a=some { cls:=.type "list",data:=.seq vs.toArray }) (hi:IntsAre vs ns) (hl:ns.length≤sizeLine) (hr:Room k callerA)
    (F:∀ base:Heap,K.In base→base.Ns mainGlobals mg→FnOk P w K mg base CX k fa fd [x] sp) (hbind:∀ (s:Shared) (u:Value),BindsTo s fd ⟨[u],[]⟩ [(x,u)])
    (hsp:∀ H:Hp,Only H→SqL K H a (ns.map V.int)→sp [.ref a] H (fun v _=>v=.bl true) fun _ _ _=>False)
    (hCX:∀ H e s',CX [] H s₁ (fun _ _ _=>False) e s'→False):
    codeAny (model P w) callerA (.call (.ref fa) ⟨[.ref a],[]⟩) (fun r s'=>r=.ok (.ret (.bool true))∧OldK s₁.heap s'.heap∧s'.os=s₁.os∧AllBare s'.gens) s₁:=by
  have rv:=vals_ints hi
  have lenV:=hi.length
  have core:∀ H:Hp,Only H→SqL K H a (ns.map V.int)→HOk P w H s₁.heap→(∀ b,H b≠none→b=a)→(H a≠none→K.lookup a=none) →
      codeAny (model P w) callerA (.call (.ref fa) ⟨[.ref a],[]⟩) (fun r s'=>r=.ok (.ret (.bool true))∧OldK s₁.heap s'.heap∧s'.os=s₁.os∧AllBare s'.gens) s₁:=by
    intro H hO hS hok hA hK
    have base_of:∀ {b:Addr} {o:Obj},s₁.heap.get? b=some o→H b=none→(hidT s₁.heap H).get? b=some o:=fun e n=>hidT_get e n
    have noA:∀ {b:Addr} {o:Obj} {es:Array DictEntry} {ep:Nat},s₁.heap.get? b=some o→o.data=.dict es ep→H b=none:=fun {b o es ep} e d=>by
      cases q:H b with
      | none=>rfl
      | some u=>
        have e':b=a:=hA b (by rw[q];simp)
        subst e'
        rw[ha] at e;cases e
        have d':Data.seq vs.toArray _=Data.dict es ep:=d
        cases d'
    have nsK:∀ {b:Addr} {m:Str→Option Value},s₁.heap.Ns b m→(hidT s₁.heap H).Ns b m:=fun {b m} ⟨o,es,ep,e,d,r⟩=>⟨o,es,ep,base_of e (noA e d),d,r⟩
    have hKb:K.In (hidT s₁.heap H):=fun b o e=>base_of (KX b o e) (by
      cases q:H b with
      | none=>rfl
      | some u=>
        have e':b=a:=hA b (by rw[q];simp)
        subst e'
        rw[hK (by rw[q];simp)] at e;cases e)
    have hM:Mod K mg (hidT s₁.heap H):=⟨hKb,nsK hns,⟨mb,nsK hb,hbb⟩,let ⟨mc,h1,h2⟩:=hlim;⟨mc,nsK h1,h2⟩⟩
    have e0:Env0 P w K mg (hidT s₁.heap H) callerA [] s₁ H:=⟨rfl,hM,fun b o e=>of_hidT e,Nat.le_of_eq (hidT_size _ _),trivial,fun b hb=>absurd (show b∈([]:List Addr) from hb) (by simp),hok,.of_eq hg⟩
    refine codeAny_mono ((F _ hKb (nsK hns)).run callerA [] s₁ H ⟨[.ref a],[]⟩ [.ref a] [.ref a] _ _ hr e0 (hbind s₁ (.ref a)) (.cons rfl .nil) (hsp H hO hS)) fun r s' h=>?_
    cases r with
    | error e=>exact (hCX H e s' h).elim
    | ok fl=>
      cases fl with
      | next=>exact False.elim h
      | brk=>exact False.elim h
      | cont=>exact False.elim h
      | ret u=>
        obtain ⟨v,H',os,bare,un,hok',r',q⟩:=h
        have q':v=.bl true:=q
        subst q'
        obtain rfl:u=Value.bool true:=r'
        refine ⟨rfl,OldK.of_keep fun b o e=>?_,os,bare⟩
        cases q:H b with
        | none=>exact un.keep b o e q (by intro z;exact absurd (show b∈([]:List Addr) from z) (by simp)) (by simp)
        | some u=>
          rcases hO b with z | ⟨ob,xs,z⟩
          · rw[q] at z;cases z
          · have z2:=un.frzs b ob _ z
            obtain ⟨e1,_⟩:=hok b _ z
            obtain ⟨e2,_⟩:=hok' b _ z2
            rw[e] at e1;cases e1
            exact e2
  cases hk:K.lookup a with
  | some o=>
    have e:=KX a o hk
    rw[ha] at e
    cases e
    refine core (fun _=>none) (fun _=>.inl rfl) (.inr ⟨_,vs.toArray,_,hk,rfl,rfl,rfl,by rw[List.size_toArray,lenV];exact hl,by simpa using rv⟩) (fun b u z=>by have z':(none:Option HO)=some u:=z;cases z') (fun b z=>absurd rfl z) fun z=>absurd rfl z
  | none=>
    refine core (fun b=>if b=a then some (.frz { cls:=.type "list",data:=.seq vs.toArray } (.lst (ns.map V.int))) else none) (fun b=>?_) (.inl (.inr ⟨{ cls:=.type "list",data:=.seq vs.toArray },if_pos rfl⟩)) (fun b u z=>?_) (fun b z=>?_) fun _=>hk
    · by_cases hb:b=a
      · exact .inr ⟨_,_,if_pos hb⟩
      · exact .inl (if_neg hb)
    · by_cases hb:b=a
      · have z':=(if_pos hb).symm.trans z
        cases z'
        subst hb
        exact ⟨ha,by rw[List.length_map];exact hl,vs,_,rv,ha⟩
      · have z':=(if_neg hb).symm.trans z
        cases z'
    · by_cases hb:b=a
      · exact hb
      · exact absurd (if_neg hb) z
end L2
namespace L2
open PySem PySem.Spec PyProof.Rows
abbrev KOf {K:PySem.W.Frag} {h:Heap} (_:K.In h):PySem.W.Frag:=K
theorem walk_of {l:PySem.W.OpenLaw} {n k:Nat} {q:Program} {loose:List Str} {XP:(Str→Option Value)→Heap→Prop} {YP:World→Heap→Prop} {d:DefRec} {K:Params→PySem.W.Frag} {CX:World→CXT} {sp:World→Sp} {x:Str}
    (hn:l.most=some n) (hn2:n≤sizeLine) (hdf:d.params.defaults=[]) (hr:Room k callerA)
    (hY:∀ (w:World) (h:Heap),YP w h→(K w.params).In h)
    (F:∀ (w:World) (mg:Str→Option Value) (fa:Addr) (h:Heap),(K w.params).In h→h.Ns mainGlobals mg→mg d.name=some (.ref fa) →
      ∃ fd:FuncData,(∀ (s:Shared) (u:Value),BindsTo s fd ⟨[u],[]⟩ [(x,u)]) ∧
        ∀ base:Heap,(K w.params).In base→base.Ns mainGlobals mg→FnOk l.prog w (K w.params) mg base (CX w) k fa fd [x] (sp w))
    (hsp:∀ (w:World) (H:Hp) (a:Addr) (ns:List Int),ns.length≤n→Only H→SqL (K w.params) H a (ns.map V.int)→sp w [.ref a] H (fun v _=>v=.bl true) fun _ _ _=>False)
    (hCX:∀ (w:World) (H:Hp) (s:Shared) (e:Value) (s':Shared),CX w [] H s (fun _ _ _=>False) e s'→False):
    PySem.W.WalkO q loose XP YP l.row.toRowW d [] (fun f vs=>PySem.call f vs):=by
  refine Att.attach_call hn hdf fun w s₀ s₁ mg mb fa o pm cd doc a vs ns G Y ho hd hcd hmg hobj hints hlen hg=>?_
  have KX:=hY w _ Y
  obtain ⟨fd,hb,hF⟩:=F w mg fa _ KX G.T.g hmg
  exact law_call KX G.T.g G.T.b G.T.builtins G.T.nolimit hg hobj hints (Nat.le_trans hlen hn2) hr hF hb (fun H hO hS=>hsp w H a ns hlen hO hS) fun H e s'=>hCX w H s₁ e s'
end L2
namespace L2
open PySem PySem.Spec PyProof.Rows
def inClass (s:Stmt) (j:Nat):Stmt:=match s with
  | .ClassDef _ _ _ body _ _ _ _ _ _ _=>body.getD j (.Pass ⟨0,0,0,0⟩)
  | _=>.Pass ⟨0,0,0,0⟩
def defArgs (s:Stmt):Arguments:=match s with
  | .FunctionDef _ a _ _ _ _ _ _ _ _=>a
  | _=>{ posonlyargs:=[],args:=[],vararg:=none,kwonlyargs:=[],kw_defaults:=[],kwarg:=none,defaults:=[] }
def defBody (s:Stmt):List Stmt:=match s with
  | .FunctionDef _ _ b _ _ _ _ _ _ _=>b
  | _=>[]
def defScope (s:Stmt):Scope:=match s with
  | .FunctionDef _ _ _ _ _ _ sc _ _ _=>sc
  | _=>{ kind:=.function,names:=[],isGenerator:=false,isCoroutine:=false }
abbrev CX0:CXT:=fun _ _ _ _ _ _=>False
abbrev E0:XK:=fun _ _ _=>False
theorem pass0 {X:Cx}:Passes CX0 X E0:=fun _ _ _ _ _ _ _ h=>h.elim
structure Fun (K:PySem.W.Frag) (x qual:Str) (st:Stmt) (f:Addr) (fd:FuncData):Prop where
  ex:∃ (oc:Value) (od:Option Addr) (kV doc pm:Value) (an:Option Addr) (cdv ct:Value) (osl:Array (Option Value)),
    fd=PySem.W.fnOf x qual (defArgs st) (defBody st) (defScope st) .none kV doc pm an cdv ct∧K.lookup f=some ⟨oc,od,.func fd,osl⟩∧PySem.W.codeIn K cdv qual=true
  kp:PySem.W.keepIn K (.ref f)=true
section
variable {P:Program} {w:World} {K:PySem.W.Frag} {mg:Str→Option Value} {base:Heap}
theorem Fun.ok {x qual:Str} {st:Stmt} {f:Addr} {fd:FuncData} {N ps:List Str} {k:Nat} {sp:Sp} (F:Fun K x qual st f fd) (S:FnScope N ps (defScope st)) (len:∀ vs H Q E,sp vs H Q E→vs.length=ps.length)
    (hbody:∀ (cdv:Value) (A:Around) (outer:List Env) (s:Shared) (H:Hp) (vs:List V) (Q:VK) (E:XK),Room k (A.deeper (envOfC qual (defScope st) s.heap.objs.size f cdv))→sp vs H Q E →
      ∃ t,PSs (cxOf CX0 P w K mg base N qual (defScope st) f cdv A outer s H E).nox (defBody st) t∧t { nx:=fun _ H'=>Q .non H',rt:=Q } (start N vs) H):FnOk P w K mg base CX0 (k + 1) f fd ps sp:=by
  obtain ⟨oc,od,kV,doc,pm,an,cdv,ct,osl,rfl,lk,hcd⟩:=F.ex
  refine fn_of lk hcd S len fun A outer s H vs Q E hr hsp=>?_
  obtain ⟨t,h,q⟩:=hbody cdv A outer s H vs Q E hr hsp
  exact ⟨t,h.nox,q⟩
theorem Fun.binds {x qual:Str} {st:Stmt} {f:Addr} {fd:FuncData} {ps:List Str} (F:Fun K x qual st f fd)
    (h:∀ (kV doc pm:Value) (an:Option Addr) (cdv ct:Value) (us:List Value),us.length=ps.length→bindArgs (PySem.W.fnOf x qual (defArgs st) (defBody st) (defScope st) .none kV doc pm an cdv ct) ⟨us,[]⟩=pure (ps.zip us)):Binds K fd ps []:=by
  obtain ⟨oc,od,kV,doc,pm,an,cdv,ct,osl,rfl,lk,hcd⟩:=F.ex
  exact .all (h kV doc pm an cdv ct)
theorem fun_mk {x qual:Str} {st:Stmt} {f:Addr} {oc:Value} {od an:Option Addr} {osl:Array (Option Value)} {kV doc pm cdv ct:Value} (l:K.lookup f=some ⟨oc,od,.func (PySem.W.fnOf x qual (defArgs st) (defBody st) (defScope st) .none kV doc pm an cdv ct),osl⟩)
    (c:PySem.W.codeIn K cdv qual=true) (k:PySem.W.keepIn K (.ref f)=true):Fun K x qual st f (PySem.W.fnOf x qual (defArgs st) (defBody st) (defScope st) .none kV doc pm an cdv ct):=⟨⟨oc,od,kV,doc,pm,an,cdv,ct,osl,rfl,l,c⟩,k⟩
end
theorem small1000 {n:Nat} (h:n≤1000):n < sizeLine:=Nat.lt_of_le_of_lt h (by decide)
section
variable {X:Cx}
theorem pv (i:Nat) {x:Str} {pos:Pos} (hN:X.N[i]?=some x:=by rfl) (hv:Vis X.env.scope x:=by first | exact Or.inl rfl | exact Or.inr (Or.inl rfl) | exact Or.inr (Or.inr rfl)) (hd:(x == ("__debug__":Str))=false:=by decide)
    (hcd:(x == ("__classdict__":Str))=false:=by decide):PE X (.Name x pos) (tVar i):=pe_var hN hv hd hcd
end
theorem iteF {A B:Prop} (h:B):if false=true then A else B:=by
  rw[if_neg Bool.false_ne_true]
  exact h
theorem iteT {A B:Prop} (h:A):if true=true then A else B:=by
  rw[if_pos rfl]
  exact h
theorem ite2 {c A B:Prop} [Decidable c] (h1:c→A) (h2:¬ c→B):if c then A else B:=by
  by_cases h:c
  · rw[if_pos h]
    exact h1 h
  · rw[if_neg h]
    exact h2 h
def Same (H H':Hp):Prop:=∀ b o,H b=some o→H' b=some o
theorem Same.refl (H:Hp):Same H H:=fun _ _ h=>h
theorem Same.trans {H H1 H2:Hp} (a:Same H H1) (b:Same H1 H2):Same H H2:=fun c o h=>b c o (a c o h)
theorem Same.free {H H':Hp} (e:Same H H') {l:Addr} (h:H' l=Option.none):H l=Option.none:=by
  cases q:H l with
  | none=>rfl
  | some o=>
    rw[e l o q] at h
    cases h
theorem Same.seq {K:PySem.W.Frag} {H H':Hp} {a:Addr} {xs:List V} (e:Same H H') (h:SqL K H a xs):SqL K H' a xs:=by
  rcases h with (h | ⟨o,h⟩) | h
  · exact .inl (.inl (e _ _ h))
  · exact .inl (.inr ⟨o,e _ _ h⟩)
  · exact .inr h
end L2
set_option Elab.async false
set_option linter.all false
set_option maxRecDepth 100000
namespace L2
open PySem PySem.Spec PyProof.Rows
section
variable {κ:Type} [DecidableEq κ]
def valV (kvs:List (κ×V)) (k:κ):Option V:=(kvs.find? fun kv=>decide (kv.1=k)).map (·.2)
def putK (kvs:List (κ×V)) (k:κ) (v:V):List (κ×V):=
  if (kvs.any fun kv=>decide (kv.1=k))=true then kvs.map (fun kv=>if kv.1=k then (kv.1,v) else kv) else kvs++[(k,v)]
def dropK (kvs:List (κ×V)) (k:κ):List (κ×V):=kvs.filter fun kv=>decide (kv.1≠k)
theorem valV_pos {p:κ×V} {r:List (κ×V)} {k:κ} (e:p.1=k):valV (p :: r) k=some p.2:=by simp [valV,List.find?_cons,e]
theorem valV_neg {p:κ×V} {r:List (κ×V)} {k:κ} (e:¬ p.1=k):valV (p :: r) k=valV r k:=by simp [valV,List.find?_cons,e]
theorem valV_any (k:κ):∀ kvs:List (κ×V),(kvs.any fun kv=>decide (kv.1=k))=(valV kvs k).isSome
  | []=>rfl
  | p :: r=>by
    rw[List.any_cons]
    by_cases e:p.1=k
    · simp only[valV_pos e,decide_eq_true e,Bool.true_or,Option.isSome_some]
    · rw[valV_neg e,decide_eq_false e,Bool.false_or];exact valV_any k r
theorem valV_map (k j:κ) (y:V):∀ kvs:List (κ×V),valV (kvs.map fun kv=>if kv.1=k then (kv.1,y) else kv) j=(valV kvs j).map fun x=>if j=k then y else x
  | []=>rfl
  | p :: r=>by
    have ih:=valV_map k j y r
    rw[List.map_cons]
    by_cases h:p.1=k
    · rw[if_pos h]
      by_cases e:p.1=j
      · rw[valV_pos (p:=(p.1,y)) e,valV_pos e,Option.map_some,if_pos (e.symm.trans h)]
      · rw[valV_neg (p:=(p.1,y)) e,valV_neg e,ih]
    · rw[if_neg h]
      by_cases e:p.1=j
      · rw[valV_pos (p:=p) e,valV_pos e,Option.map_some,if_neg (fun z=>h (e.trans z))]
      · rw[valV_neg (p:=p) e,valV_neg e,ih]
theorem valV_snoc (k j:κ) (y:V):∀ kvs:List (κ×V),valV kvs k=none→valV (kvs++[(k,y)]) j=if j=k then some y else valV kvs j
  | [],_=>by
    by_cases e:k=j
    · rw[if_pos e.symm];exact valV_pos (p:=(k,y)) e
    · rw[if_neg (fun z=>e z.symm)];exact valV_neg (p:=(k,y)) e
  | p :: r,hn=>by
    rw[List.cons_append]
    have hk:¬ p.1=k:=fun z=>by rw[valV_pos z] at hn;cases hn
    rw[valV_neg hk] at hn
    have ih:=valV_snoc k j y r hn
    by_cases e:p.1=j
    · rw[valV_pos e,valV_pos e,if_neg (fun z=>hk (e.trans z))]
    · rw[valV_neg e,valV_neg e,ih]
theorem valV_put (kvs:List (κ×V)) (k j:κ) (y:V):valV (putK kvs k y) j=if j=k then some y else valV kvs j:=by
  unfold putK
  by_cases a:(kvs.any fun kv=>decide (kv.1=k))=true
  · rw[if_pos a,valV_map]
    rw[valV_any] at a
    by_cases e:j=k
    · obtain ⟨x,hx⟩:=Option.isSome_iff_exists.mp a
      rw[if_pos e,e,hx,Option.map_some,if_pos rfl]
    · rw[if_neg e]
      cases valV kvs j with
      | none=>rfl
      | some x=>rw[Option.map_some,if_neg e]
  · rw[if_neg a]
    refine valV_snoc k j y kvs ?_
    rw[valV_any] at a
    cases q:valV kvs k with
    | none=>rfl
    | some x=>rw[q] at a;exact (a rfl).elim
theorem putK_new {kvs:List (κ×V)} {k:κ} (v:V) (h:valV kvs k=none):putK kvs k v=kvs++[(k,v)]:=by
  unfold putK
  rw[valV_any,h]
  exact if_neg (by decide)
theorem RelO.isSome_eq {o:Option V} {u:Option Value} (r:RelO o u):o.isSome=u.isSome:=by
  cases o with
  | none=>cases u with
    | none=>rfl
    | some _=>exact (show False from r).elim
  | some _=>cases u with
    | none=>exact (show False from r).elim
    | some _=>rfl
theorem RelO.getD {o:Option V} {u:Option Value} {d:V} {d':Value} (r:RelO o u) (rd:RelV d d'):RelV (o.getD d) (u.getD d'):=by
  cases o with
  | none=>cases u with
    | none=>exact rd
    | some _=>exact (show False from r).elim
  | some _=>cases u with
    | none=>exact (show False from r).elim
    | some _=>exact r
theorem KV.val {kvs:List (κ×V)} {vs:List (κ×Value)} (r:KV kvs vs) (k:κ):RelO (valV kvs k) (valueAt vs k):=by
  unfold KV at r
  induction r with
  | nil=>exact True.intro
  | @cons p q ps qs h t ih=>
    obtain ⟨h1,h2⟩:=h
    by_cases e:p.1=k
    · have e':q.1=k:=h1.symm.trans e
      have b:valueAt (q :: qs) k=some q.2:=by simp [valueAt,List.find?_cons,e']
      rw[valV_pos e,b];exact h2
    · have e':¬ q.1=k:=fun z=>e (h1.trans z)
      have b:valueAt (q :: qs) k=valueAt qs k:=by simp [valueAt,List.find?_cons,e']
      rw[valV_neg e,b];exact ih
theorem KV.any {kvs:List (κ×V)} {vs:List (κ×Value)} (r:KV kvs vs) (k:κ):(kvs.any fun kv=>decide (kv.1=k))=vs.any fun kv=>decide (kv.1=k):=by
  unfold KV at r
  induction r with
  | nil=>rfl
  | cons h t ih=>rw[List.any_cons,List.any_cons,ih,h.1]
theorem KV.repl {kvs:List (κ×V)} {vs:List (κ×Value)} (r:KV kvs vs) (k:κ) {y:V} {u:Value} (ry:RelV y u):
    KV (kvs.map fun kv=>if kv.1=k then (kv.1,y) else kv) (vs.map fun kv=>if kv.1=k then (kv.1,u) else kv):=by
  unfold KV at r ⊢
  induction r with
  | nil=>exact .nil
  | @cons p q ps qs h t ih=>
    rw[List.map_cons,List.map_cons]
    refine .cons ?_ ih
    obtain ⟨h1,h2⟩:=h
    by_cases e:p.1=k
    · rw[if_pos e,if_pos (h1.symm.trans e)];exact ⟨h1,ry⟩
    · rw[if_neg e,if_neg (fun z=>e (h1.trans z))];exact ⟨h1,h2⟩
theorem KV.put {kvs:List (κ×V)} {vs:List (κ×Value)} (r:KV kvs vs) (k:κ) {y:V} {u:Value} (ry:RelV y u):KV (putK kvs k y) (stored vs k u):=by
  unfold putK stored
  rw[r.any k]
  by_cases e:(vs.any fun kv=>decide (kv.1=k))=true
  · rw[if_pos e,if_pos e];exact r.repl k ry
  · rw[if_neg e,if_neg e];exact Paired.snoc r ⟨rfl,ry⟩
theorem KV.drop {kvs:List (κ×V)} {vs:List (κ×Value)} (r:KV kvs vs) (k:κ):KV (dropK kvs k) (without vs k):=by
  unfold KV at r ⊢
  unfold dropK without
  induction r with
  | nil=>exact .nil
  | @cons p q ps qs h t ih=>
    obtain ⟨h1,h2⟩:=h
    rw[List.filter_cons,List.filter_cons]
    by_cases e:p.1=k
    · have a:¬ decide (p.1≠k)=true:=by simp [e]
      have b:¬ decide (q.1≠k)=true:=by simp [h1.symm.trans e]
      rw[if_neg a,if_neg b];exact ih
    · have e':¬ q.1=k:=fun z=>e (h1.trans z)
      have a:decide (p.1≠k)=true:=by simp [e]
      have b:decide (q.1≠k)=true:=by simp [e']
      rw[if_pos a,if_pos b];exact .cons ⟨h1,h2⟩ ih
theorem KV.keys {kvs:List (κ×V)} {vs:List (κ×Value)} (r:KV kvs vs):kvs.map (·.1)=vs.map (·.1):=by
  unfold KV at r
  induction r with
  | nil=>rfl
  | cons h t ih=>rw[List.map_cons,List.map_cons,ih,h.1]
theorem KV.length {kvs:List (κ×V)} {vs:List (κ×Value)} (r:KV kvs vs):kvs.length=vs.length:=Paired.length r
end
theorem kV_is {P:Program} {w:World} {k:Key} {u:Value} (r:RelV (kV k) u):(mixKind P w).is k u=true:=by
  cases k with
  | inl i=>obtain ⟨t,e⟩:=(show ∃ t,u=Value.int i t from r);subst e;exact mixKind_int P w i t
  | inr x=>obtain ⟨t,e⟩:=(show ∃ t,u=Value.str x t from r);subst e;exact mixKind_str P w x t
theorem items_are {P:Program} {w:World}:∀ {ks:List Key} {us:List Value},Vals (ks.map kV) us→ItemsAre (mixKind P w) ks us
  | [],_,r=>by rw[List.map_nil] at r;cases r;exact .nil
  | k :: ks,_,r=>by
    rw[List.map_cons] at r
    cases r with
    | cons h t=>exact .cons (kV_is h) (items_are t)
abbrev KT (H:Hp):List (List Key×V)→List (List Key×Addr×Value)→Prop:=Paired fun p q=>p.1=q.1∧H q.2.1=some (.tup (p.1.map kV))∧RelV p.2 q.2.2
theorem KT.val {H:Hp} {kvs:List (List Key×V)} {xs:List (List Key×Addr×Value)} (r:KT H kvs xs) (k:List Key):RelO (valV kvs k) ((atKey xs k).map (·.2)):=by
  induction r with
  | nil=>exact True.intro
  | @cons p q ps qs h t ih=>
    obtain ⟨h1,_,h2⟩:=h
    by_cases e:p.1=k
    · have e':q.1=k:=h1.symm.trans e
      have b:atKey (q :: qs) k=some q.2:=by simp [atKey,List.find?_cons,e']
      rw[valV_pos e,b];exact h2
    · have e':¬ q.1=k:=fun z=>e (h1.trans z)
      have b:atKey (q :: qs) k=atKey qs k:=by simp [atKey,List.find?_cons,e']
      rw[valV_neg e,b];exact ih
theorem KT.repl {H:Hp} {kvs:List (List Key×V)} {xs:List (List Key×Addr×Value)} (r:KT H kvs xs) (k:List Key) {y:V} {u:Value} (ry:RelV y u):
    KT H (kvs.map fun kv=>if kv.1=k then (kv.1,y) else kv) (xs.map (putAt k u)):=by
  induction r with
  | nil=>exact .nil
  | @cons p q ps qs h t ih=>
    rw[List.map_cons,List.map_cons]
    refine .cons ?_ ih
    obtain ⟨h1,h2,h3⟩:=h
    unfold putAt
    by_cases e:p.1=k
    · rw[if_pos e,if_pos (h1.symm.trans e)];exact ⟨h1,h2,ry⟩
    · rw[if_neg e,if_neg (fun z=>e (h1.trans z))];exact ⟨h1,h2,h3⟩
theorem KT.put {H:Hp} {kvs:List (List Key×V)} {xs:List (List Key×Addr×Value)} (r:KT H kvs xs) (k:List Key) {b:Addr} {y:V} {u:Value} (hb:H b=some (.tup (k.map kV))) (ry:RelV y u):
    KT H (putK kvs k y) (storedH xs k b u):=by
  have e:(kvs.any fun kv=>decide (kv.1=k))=(atKey xs k).isSome:=by
    rw[valV_any,(r.val k).isSome_eq,Option.isSome_map]
  unfold putK storedH
  rw[e]
  by_cases q:(atKey xs k).isSome=true
  · rw[if_pos q,if_pos q];exact r.repl k ry
  · rw[if_neg q,if_neg q];exact Paired.snoc r ⟨rfl,hb,ry⟩
theorem KT.keeps {H H':Hp} {kvs:List (List Key×V)} {xs:List (List Key×Addr×Value)} (r:KT H kvs xs) (ht:∀ b ys,H b=some (.tup ys)→H' b=some (.tup ys)):KT H' kvs xs:=
  Paired.mapP r fun _ _ z=>⟨z.1,ht _ _ z.2.1,z.2.2⟩
section
variable {P:Program} {w:World} {H:Hp} {h:Heap} {a:Addr}
theorem rd_of {u:HO} (ok:HOk P w H h) (e:Rd H a u):ObjOk P w H h a u:=e.ok ok
theorem dk_rd {kvs:List (Key×V)} (ok:HOk P w H h) (e:Rd H a (.dK kvs)):kvs.length≤sizeLine∧(a == sysModules)=false∧∃ vs,KV kvs vs∧h.DictOf (mixKind P w) a vs:=
  show ObjOk P w H h a (.dK kvs) from rd_of ok e
theorem key_of {ks:List Key} (ok:HOk P w H h) (e:H a=some (.tup (ks.map kV))):(tupleKind (mixKind P w)).is h ks a:=by
  obtain ⟨_,its,r,o,h1,h2,n,h3⟩:=(show ObjOk P w H h a (.tup (ks.map kV)) from ok a _ e)
  exact ⟨o,its.toArray,n,h1,h2,h3,by simpa using items_are r⟩
theorem dt_rd {kvs:List (List Key×V)} (ok:HOk P w H h) (e:Rd H a (.dT kvs)):kvs.length≤sizeLine∧(a == sysModules)=false ∧
    ∃ xs,KT H kvs xs∧h.DictOfH (tupleKind (mixKind P w)) a xs:=by
  obtain ⟨z,y,xs,r,o,es,ep,h1,h2,h3,h4,h5⟩:=(show ObjOk P w H h a (.dT kvs) from rd_of ok e)
  refine ⟨z,y,xs,r,o,es,ep,h1,h2,h3,h4,fun x hx=>?_,h5⟩
  have all:∀ {l:List (List Key×V)} {m:List (List Key×Addr×Value)},KT H l m→∀ x∈m,(tupleKind (mixKind P w)).is h x.1 x.2.1:=by
    intro l m q
    induction q with
    | nil=>intro x hx;exact nomatch hx
    | @cons p q ps qs hq t ih=>
      intro x hx
      rcases List.mem_cons.mp hx with e | hx
      · subst e
        exact key_of ok (by rw[←hq.1];exact hq.2.1)
      · exact ih x hx
  exact all r x hx
end
def DGet (H:Hp) (a:Addr) (y:V) (r:Option V):Prop:=
  (∃ kvs k,Rd H a (.dK kvs)∧y=kV k∧r=valV kvs k)∨∃ kvs k b,Rd H a (.dT kvs)∧y=.ref b∧H b=some (.tup (k.map kV))∧r=valV kvs k
def DPut (H:Hp) (a:Addr) (y v:V) (H':Hp):Prop:=
  (∃ kvs k,H a=some (.dK kvs)∧y=kV k∧kvs.length < sizeLine∧H'=upd H a (.dK (putK kvs k v))) ∨
  ∃ kvs k b,H a=some (.dT kvs)∧y=.ref b∧H b=some (.tup (k.map kV))∧kvs.length < sizeLine∧H'=upd H a (.dT (putK kvs k v))
theorem DGet.k {H:Hp} {a:Addr} {kvs:List (Key×V)} {k:Key} (e:H a=some (.dK kvs)):DGet H a (kV k) (valV kvs k):=.inl ⟨kvs,k,.inl e,rfl,rfl⟩
theorem DGet.t {H:Hp} {a b:Addr} {kvs:List (List Key×V)} {k:List Key} (e:H a=some (.dT kvs)) (eb:H b=some (.tup (k.map kV))):DGet H a (.ref b) (valV kvs k):=.inr ⟨kvs,k,b,.inl e,rfl,eb,rfl⟩
theorem DPut.k {H:Hp} {a:Addr} {kvs:List (Key×V)} {k:Key} {v:V} (e:H a=some (.dK kvs)) (hl:kvs.length < sizeLine):DPut H a (kV k) v (upd H a (.dK (putK kvs k v))):=.inl ⟨kvs,k,e,rfl,hl,rfl⟩
theorem DPut.t {H:Hp} {a b:Addr} {kvs:List (List Key×V)} {k:List Key} {v:V} (e:H a=some (.dT kvs)) (eb:H b=some (.tup (k.map kV))) (hl:kvs.length < sizeLine):
    DPut H a (.ref b) v (upd H a (.dT (putK kvs k v))):=.inr ⟨kvs,k,b,e,rfl,eb,hl,rfl⟩
section
variable {X:Cx} {pins:List (Addr×Obj)} {σ:St} {H:Hp} {s:Shared} {a:Addr} {y v:V} {u r:Value} {o:Option V} {A:Around} {E:Value→Shared→Prop}
end
section
variable {X:Cx} {pins:List (Addr×Obj)} {σ:St} {H:Hp} {s:Shared} {a:Addr} {kvs:List (Key×V)} {k:Key} {u:Value} {A:Around} {E:Value→Shared→Prop}
end
section
variable {X:Cx} {o i e value:Expr} {pos pos' tpos:Pos} {td ty tv:TE}
end
def tDNewK:TE:=fun _ H Q=>∀ p,H p=none→Q (.ref p) (upd H p (.dK []))
section
variable {X:Cx} {pos:Pos}
end
def tPairs:List (TE×TE)→St→Hp→(List (V×V)→Hp→Prop)→Prop
  | [],_,H,Q=>Q [] H
  | (tk,tv) :: r,σ,H,Q=>tk σ H fun x H1=>tv σ H1 fun y H2=>tPairs r σ H2 fun ps H3=>Q ((x,y) :: ps) H3
def mergeK (kvs more:List (Key×V)):List (Key×V):=more.foldl (fun acc kv=>putK acc kv.1 kv.2) kvs
theorem KV.merge:∀ {more:List (Key×V)} {rs:List (Key×Value)} {kvs:List (Key×V)} {vs:List (Key×Value)},KV more rs→KV kvs vs→KV (mergeK kvs more) (merged vs rs):=by
  intro more rs kvs vs r
  unfold KV at r
  induction r generalizing kvs vs with
  | nil=>intro q;exact q
  | @cons p q ps qs h t ih=>
    intro r0
    have e:KV (putK kvs p.1 p.2) (stored vs q.1 q.2):=by
      have:=r0.put p.1 h.2
      rw[←h.1];exact this
    exact ih e
def tDisp (trs:List (TE×TE)):TE:=fun σ H Q=>∀ p,H p=none→tPairs trs σ (upd H p (.dK [])) fun ps H2=>H2 p=some (.dK [])∧∃ kvs:List (Key×V),ps=kvs.map (fun kv=>(kV kv.1,kv.2))∧kvs.length≤15∧Q (.ref p) (upd H2 p (.dK (mergeK [] kvs)))
structure M1 (X:Cx) (o:Expr) (m:Str) (apos:Pos) (e:Expr) (cpos:Pos):Prop where
  base:attributeBase o m X.env (eval o X.env)=eval o X.env
  few:((backTo cpos (starEach [e] X.env)).all (fun x=>!x.1)&&(backToKw cpos (keywordEach [] X.env)).all (fun x=>x.1.isSome)
    && decide (([e]:List Expr).length + ([]:List Keyword).length + (if ([]:List Keyword).isEmpty then 0 else 1) < 30))=true
  line:(apos.endLine == cpos.line)=true
  trees:backTo cpos (starEach [e] X.env)=[(false,eval e X.env)]
structure M2 (X:Cx) (o:Expr) (m:Str) (apos:Pos) (e f:Expr) (cpos:Pos):Prop where
  base:attributeBase o m X.env (eval o X.env)=eval o X.env
  few:((backTo cpos (starEach [e,f] X.env)).all (fun x=>!x.1)&&(backToKw cpos (keywordEach [] X.env)).all (fun x=>x.1.isSome)
    && decide (([e,f]:List Expr).length + ([]:List Keyword).length + (if ([]:List Keyword).isEmpty then 0 else 1) < 30))=true
  line:(apos.endLine == cpos.line)=true
  trees:backTo cpos (starEach [e,f] X.env)=[(false,eval e X.env),(false,eval f X.env)]
section
variable {X:Cx} {pins:List (Addr×Obj)} {σ:St} {H:Hp} {s:Shared} {a:Addr} {y d:V} {u r:Value} {o:Option V} {A:Around} {E:Value→Shared→Prop}
end
section
variable {X:Cx} {o e f:Expr} {apos cpos:Pos} {td ty tx:TE}
end
section
variable {X:Cx} {pins:List (Addr×Obj)} {σ:St} {H:Hp} {s:Shared} {a:Addr} {kvs:List (Key×V)} {A:Around} {E:Value→Shared→Prop}
end
section
variable {X:Cx} {pins:List (Addr×Obj)} {σ:St} {H:Hp} {s:Shared} {a:Addr} {y:V} {u:Value} {A:Around} {E:Value→Shared→Prop}
theorem d_missing {Q:Value→Shared→Prop} (hu:A.units + 1 < cLine) (hh:A.handled=none) (I:Inv X pins σ H s) (g:DGet H a y none) (ry:RelV y u)
    (h:∀ h' e t',Heap.NewExc s.heap h' e "KeyError"→E (.ref e) { s with heap:=h',toks:=t' }):wpAny (model X.prog X.w) A (getItem (.ref a) u) Q E s:=by
  rcases g with ⟨kvs,k,e,ey,l⟩ | ⟨kvs,k,b,e,ey,eb,l⟩
  · subst ey
    obtain ⟨z,hd,vs,rel,dd⟩:=dk_rd I.hok e
    have hn:valueAt vs k=none:=RelO.none_of (by rw[l];exact rel.val k)
    exact wpAny_getItem_missing_of (kV_is ry) hd hh dd.mapOf hn fun h' ex ne=>h h' ex _ ne
  · subst ey
    cases (show u=Value.ref b from ry)
    obtain ⟨z,hd,xs,rel,dd⟩:=dt_rd I.hok e
    have hn:(atKey xs k).map (·.2)=none:=RelO.none_of (by rw[l];exact rel.val k)
    exact wpAny_getItem_missing_heap (tupleKind_room_in1 hu) (key_of I.hok eb) hd hh dd (Option.map_eq_none_iff.mp hn) fun h' ex ne=>h h' ex _ ne
end
end L2
namespace L2
open PySem PySem.Spec PyProof.Rows
section
variable {X:Cx}
end
section
variable {κ:Type} [DecidableEq κ]
theorem valV_in {kvs:List (κ×V)} {k:κ} {v:V} (h:valV kvs k=some v):k∈kvs.map (·.1):=by
  have q:(kvs.any fun kv=>decide (kv.1=k))=true:=by
    rw[valV_any,h]
    all_goals rfl
  obtain ⟨p,hp,e⟩:=List.any_eq_true.mp q
  exact List.mem_map.mpr ⟨p,hp,of_decide_eq_true e⟩
end
end L2
set_option Elab.async false
set_option linter.all false
set_option maxRecDepth 100000
namespace L2
open PySem PySem.Spec PyProof.Rows
def clOf (cells:List (Str×Addr)):List (Str×NameKind)→List (Str×Addr)→List (Str×Addr)
  | [],acc=>acc
  | (n,k) :: r,acc=>if k == NameKind.free then clOf cells r ((n,(cells.lookup n).getD 0) :: acc) else clOf cells r acc
theorem clOf_sub {cells:List (Str×Addr)}:∀ (names:List (Str×NameKind)) (acc:List (Str×Addr)) (p:Str×Addr),p∈acc→p∈clOf cells names acc
  | [],_,_,h=>h
  | (n,k) :: r,acc,p,h=>by
    unfold clOf
    split
    · exact clOf_sub r _ p (List.mem_cons_of_mem _ h)
    · exact clOf_sub r acc p h
theorem clOf_has {cells:List (Str×Addr)} {x:Str}:∀ (names:List (Str×NameKind)) (acc:List (Str×Addr)),(x,NameKind.free)∈names→(x,(cells.lookup x).getD 0)∈clOf cells names acc
  | [],_,h=>by cases h
  | (n,k) :: r,acc,h=>by
    unfold clOf
    rcases List.mem_cons.mp h with e | h
    · have e1:x=n:=congrArg Prod.fst e
      have e2:NameKind.free=k:=congrArg Prod.snd e
      subst e1 e2
      exact clOf_sub r _ _ List.mem_cons_self
    · split
      · exact clOf_has r _ h
      · exact clOf_has r _ h
theorem clOf_of {cells:List (Str×Addr)}:∀ (names:List (Str×NameKind)) (acc:List (Str×Addr)) (p:Str×Addr),p∈clOf cells names acc→p∈acc∨((p.1,NameKind.free)∈names∧p.2=(cells.lookup p.1).getD 0)
  | [],_,_,h=>.inl h
  | (n,k) :: r,acc,p,h=>by
    unfold clOf at h
    split at h
    · rename_i hk
      have hk':k=NameKind.free:=by simpa using hk
      rcases clOf_of r _ p h with q | ⟨q,e⟩
      · rcases List.mem_cons.mp q with q | q
        · subst q;subst hk';exact .inr ⟨List.mem_cons_self,rfl⟩
        · exact .inl q
      · exact .inr ⟨List.mem_cons_of_mem _ q,e⟩
    · rcases clOf_of r _ p h with q | ⟨q,e⟩
      · exact .inl q
      · exact .inr ⟨List.mem_cons_of_mem _ q,e⟩
theorem closure_is {sc:Scope} {env:Env} (h:∀ y∈sc.names,y.2=NameKind.free→∃ c,env.cells.lookup y.1=some c):closureFor sc env=pure (clOf env.cells sc.names []):=by
  have all:∀ (names:List (Str×NameKind)) (acc:List (Str×Addr)),(∀ y∈names,y.2=NameKind.free→∃ c,env.cells.lookup y.1=some c) →
      (forIn names acc fun (y:Str×NameKind) (cs:List (Str×Addr))=>(if (y.2 == NameKind.free)=true then (do let a ←cellOf env y.1;pure (ForInStep.yield ((y.1,a) :: cs))) else pure (ForInStep.yield cs):Sem (ForInStep (List (Str×Addr)))))=pure (clOf env.cells names acc):=by
    intro names
    induction names with
    | nil=>intro acc _;rfl
    | cons y r ih=>
      intro acc hy
      obtain ⟨n,k⟩:=y
      rw[List.forIn_cons]
      unfold clOf
      by_cases hk:k=NameKind.free
      · subst hk
        obtain ⟨c,hc⟩:=hy (n,NameKind.free) List.mem_cons_self rfl
        have hc':env.cells.lookup n=some c:=hc
        simp only[beq_self_eq_true,if_true,cellOf,hc',pure_bind,Option.getD_some]
        exact ih _ fun z hz=>hy z (List.mem_cons_of_mem _ hz)
      · have hb:(k == NameKind.free)=false:=by simpa using hk
        simp only[hb,Bool.false_eq_true,if_false,pure_bind]
        exact ih _ fun z hz=>hy z (List.mem_cons_of_mem _ hz)
  have q:=all sc.names [] h
  unfold closureFor
  show (forIn sc.names [] fun (y:Str×NameKind) (cs:List (Str×Addr))=>_) >>= _=_
  first
    | (rw[q];rfl)
    | (refine Eq.trans (congrArg (fun t=>t >>= fun cs=>pure cs) q) ?_;rfl)
structure CmpScope (X:Cx) (sc:Scope):Prop where
  kind:sc.kind=.function
  nocell:∀ y∈sc.names,y.2≠NameKind.cell
  loc:∀ y∈sc.names,y.2=NameKind.local→sc.names.lookup y.1=some .local
  clos:∀ y∈sc.names,y.2=NameKind.free→(X.env.kindOf y.1=some .cell∨X.env.kindOf y.1=some .free)
def pick (ix:List (Option Nat)) (σ:St):St:=ix.map fun o=>o.bind fun i=>(σ[i]?).join
def idxOk (N M:List Str) (sc:Scope) (ix:List (Option Nat)):Bool:=
  ix.length == N.length&&(N.zip ix).all fun p=>match p.2 with | none=>true | some i=>decide (M[i]?=some p.1)&&decide (sc.names.lookup p.1=some NameKind.free)
def bx (X:Cx) (sc:Scope) (N:List Str) (fp:List Addr) (s₀:Shared) (H:Hp) (pn:List (Addr×Obj)):Cx:=
  { X with N:=N,s₀:=s₀,H₀:=H,env:=compEnvC sc (clOf X.env.cells sc.names []) s₀.heap.objs.size X.env,outer:=X.stack,stack:=X.stack,ex:=fp,fn:=fun _=>false,pn:=pn,xe:=fun _ _=>False }
theorem relabel_mem {sc:Scope} {env:Env} {x:Str} {k:NameKind} (h:(relabel sc env).names.lookup x=some k):(x,k)∈sc.names∨(k=.cell∧(x,NameKind.free)∈sc.names):=by
  have m:=PySem.mem_of_lookup h
  unfold relabel at m
  obtain ⟨⟨n,k'⟩,hm,e⟩:=List.mem_map.mp m
  dsimp only at e
  split at e
  · rename_i hc
    have e1:n=x:=congrArg Prod.fst e
    have e2:NameKind.cell=k:=congrArg Prod.snd e
    have e3:k'=NameKind.free:=by
      rw[Bool.and_eq_true,Bool.and_eq_true] at hc
      simpa using hc.1.1
    subst e1 e2 e3
    exact .inr ⟨rfl,hm⟩
  · have e1:n=x:=congrArg Prod.fst e
    have e2:k'=k:=congrArg Prod.snd e
    subst e1 e2
    exact .inl hm
theorem relabel_free {env:Env} {x:Str}:∀ {names:List (Str×NameKind)},names.lookup x=some NameKind.free →
    (names.map fun (n,k)=>if (k == NameKind.free&&env.scope.kind == .function&&env.kindOf n == some .cell) then (n,NameKind.cell) else (n,k)).lookup x=some .cell ∨
    (names.map fun (n,k)=>if (k == NameKind.free&&env.scope.kind == .function&&env.kindOf n == some .cell) then (n,NameKind.cell) else (n,k)).lookup x=some .free
  | [],h=>by simp at h
  | (n,k) :: r,h=>by
    by_cases hx:x=n
    · subst hx
      simp only[List.lookup_cons,beq_self_eq_true] at h
      cases h
      simp only[List.map_cons]
      split
      · left;simp [List.lookup_cons]
      · right;simp [List.lookup_cons]
    · have hb:(x == n)=false:=by simpa using hx
      simp only[List.lookup_cons,hb] at h
      have ih:=relabel_free (env:=env) h
      simp only[List.map_cons]
      split
      · simpa only[List.lookup_cons,hb] using ih
      · simpa only[List.lookup_cons,hb] using ih
theorem lookup_of_mem {α:Type} {x:Str} {c:α}:∀ {l:List (Str×α)},(x,c)∈l→∃ c',l.lookup x=some c'
  | [],h=>by cases h
  | (n,d) :: r,h=>by
    by_cases hx:x=n
    · subst hx;exact ⟨d,by simp [List.lookup_cons]⟩
    · have hb:(x == n)=false:=by simpa using hx
      rcases List.mem_cons.mp h with e | h
      · exact absurd (congrArg Prod.fst e) hx
      · obtain ⟨c',e⟩:=lookup_of_mem h
        exact ⟨c',by simpa only[List.lookup_cons,hb] using e⟩
section
variable {X:Cx} {pins:List (Addr×Obj)} {σ:St} {H:Hp} {s:Shared} {sc:Scope} {N:List Str} {fp:List Addr} {ix:List (Option Nat)}
theorem Inv.capt (I:Inv X pins σ H s) (S:CmpScope X sc):∀ y∈sc.names,y.2=NameKind.free→∃ c,X.env.cells.lookup y.1=some c:=fun y hy e=>I.ok.has y.1 (S.clos y hy e)
theorem Inv.clcell (I:Inv X pins σ H s) (S:CmpScope X sc) {x:Str} {c:Addr} (h:(clOf X.env.cells sc.names []).lookup x=some c):X.env.cells.lookup x=some c:=by
  rcases clOf_of _ _ _ (PySem.mem_of_lookup h) with q | ⟨q,e⟩
  · cases q
  · obtain ⟨c',hc⟩:=I.capt S _ q rfl
    have hc':X.env.cells.lookup x=some c':=hc
    have e':c=(X.env.cells.lookup x).getD 0:=e
    rw[hc',Option.getD_some] at e'
    rw[e'];exact hc'
theorem Inv.clhas (I:Inv X pins σ H s) (S:CmpScope X sc) {x:Str} (h:(x,NameKind.free)∈sc.names):∃ c,(clOf X.env.cells sc.names []).lookup x=some c∧X.env.cells.lookup x=some c:=by
  obtain ⟨c,e⟩:=lookup_of_mem (clOf_has (cells:=X.env.cells) sc.names [] h)
  exact ⟨c,e,I.clcell S e⟩
theorem Inv.block {h1:Heap} {tk:Nat} {m:Str→Option Value} (I:Inv X pins σ H s) (S:CmpScope X sc) (hix:idxOk N X.N sc ix=true) (hf:∀ b∈fp,FpOk X pins H b∧b < s.heap.objs.size)
    (hk:∀ b o,s.heap.get? b=some o→h1.get? b=some o) (hn:h1.Ns s.heap.objs.size m):
    Inv (bx X sc N fp s H (X.pn++pins)) [] (pick ix σ) H { s with heap:=h1,toks:=tk }:=by
  have hC:∀ b o,s.heap.get? b=some o→b≠s.heap.objs.size:=fun b o e=>Nat.ne_of_lt (Heap.lt_size e)
  have hcell:∀ x c,(clOf X.env.cells sc.names []).lookup x=some c→∃ v,s.heap.IsCell c v:=fun x c e=>I.cell x c (I.clcell S e)
  have stk:∀ b,b≠X.env.locals→b∉X.fs→b∉frs X.stack:=fun b h1 h2 hb=>by
    rcases List.mem_cons.mp (I.stkSub b hb) with z | z
    · exact h1 z
    · exact h2 z
  rw[idxOk,Bool.and_eq_true] at hix
  refine ⟨⟨I.ok.mod,S.kind,I.ok.glob,I.ok.blt,Nat.le_refl _,?_,?_,?_,I.ok.hd,I.ok.frames,.inl rfl,?_,I.bs,Nat.le_trans I.ok.bsz I.sz,?_,?_,I.stack,I.stkFree⟩,
    rfl,I.bare,Un.kept hk,⟨m,hn,?_⟩,?_,I.fresh,?_,?_,I.hok.kept hk,?_⟩
  · intro x y c e1 e2
    exact I.ok.inj x y c (I.clcell S e1) (I.clcell S e2)
  · intro x hx
    have hx:(relabel sc X.env).names.lookup x=some .cell∨(relabel sc X.env).names.lookup x=some .free:=hx
    have hm:(x,NameKind.free)∈sc.names:=by
      rcases hx with hx | hx
      · rcases relabel_mem hx with q | ⟨_,q⟩
        · exact absurd rfl (S.nocell _ q)
        · exact q
      · rcases relabel_mem hx with q | ⟨q,_⟩
        · exact q
        · cases q
    obtain ⟨c,e,_⟩:=I.clhas S hm
    exact ⟨c,e⟩
  · intro x c z
    cases z
  · intro b hb
    obtain ⟨f,hlt⟩:=hf b hb
    refine ⟨Nat.ne_of_lt hlt,fun x c e=>f.2.2.2.2.1 x c (I.clcell S e)⟩
  · intro b o e hb
    obtain ⟨⟨_,_,_,f3,_⟩,_⟩:=hf b hb
    rcases f3 with z | z
    · exact I.ok.noex b o e z
    · exact absurd (Heap.lt_size e) (Nat.not_lt.mpr (Nat.le_trans I.ok.bsz z))
  · intro b hb
    obtain ⟨⟨_,f1,f2,_⟩,_⟩:=hf b hb
    exact stk b f1 f2
  · intro i x v e1 e2 e3
    have e1:N[i]?=some x:=e1
    have hi:∃ j,ix[i]?=some (some j)∧σ[j]?=some (some v):=by
      unfold pick at e2
      rw[List.getElem?_map] at e2
      cases q:ix[i]? with
      | none=>rw[q] at e2;cases e2
      | some o=>
        rw[q] at e2
        cases o with
        | none=>cases e2
        | some j=>
          refine ⟨j,rfl,?_⟩
          have e4:(σ[j]?).join=some v:=Option.some.inj e2
          cases q2:σ[j]? with
          | none=>rw[q2] at e4;cases e4
          | some w=>rw[q2] at e4;cases w with
            | none=>cases e4
            | some w=>rw[←e4];rfl
    obtain ⟨j,hj,hσ⟩:=hi
    have hz:(x,some j)∈N.zip ix:=by
      have q:(N.zip ix)[i]?=some (x,some j):=by rw[List.getElem?_zip_eq_some];exact ⟨e1,hj⟩
      exact List.mem_of_getElem? q
    have hp:=List.all_eq_true.mp hix.2 _ hz
    dsimp only at hp
    rw[Bool.and_eq_true] at hp
    have hM:X.N[j]?=some x:=of_decide_eq_true hp.1
    have hfr:sc.names.lookup x=some NameKind.free:=of_decide_eq_true hp.2
    have hmem:=PySem.mem_of_lookup hfr
    obtain ⟨mo,hno,hlo⟩:=I.loc
    have hvis:Vis X.env.scope x:=by
      rcases S.clos _ hmem rfl with z | z
      · exact .inr (.inl z)
      · exact .inr (.inr z)
    obtain ⟨u,ru,l⟩:=hlo j x v hM hσ hvis
    refine ⟨u,ru,.inr ⟨?_,?_⟩⟩
    · exact relabel_free (env:=X.env) hfr
    · obtain ⟨c,e,e'⟩:=I.clhas S hmem
      refine ⟨c,e,?_⟩
      rcases l with ⟨k,_⟩ | ⟨_,c',ec,z⟩
      · rcases S.clos _ hmem rfl with q | q
        · rw[k] at q;cases q
        · rw[k] at q;cases q
      · rw[e'] at ec
        cases ec
        obtain ⟨o,ho,hd⟩:=z
        exact ⟨o,hk _ _ ho,hd⟩
  · intro x c e
    obtain ⟨v,o,ho,hd⟩:=hcell x c e
    exact ⟨v,o,hk _ _ ho,hd⟩
  · intro x c e
    exact I.freeC x c (I.clcell S e)
  · intro p hp
    have hp:p∈X.pn++pins:=by
      rcases List.mem_append.mp hp with z | z
      · exact z
      · cases z
    obtain ⟨e,n,ne,nf,d⟩:=I.pin p hp
    exact ⟨hk _ _ e,n,hC _ _ e,stk p.1 ne nf,d⟩
  · show (pick ix σ).length=N.length
    unfold pick
    rw[List.length_map]
    simpa using hix.1
theorem Inv.unblock {τ:St} {H':Hp} {s':Shared} {h':Heap} (I:Inv X pins σ H s) (hf:∀ b∈fp,FpOk X pins H b) (J:Inv (bx X sc N fp s H (X.pn++pins)) [] τ H' s') (hs:Heap.SameBut s.heap.objs.size s'.heap h'):
    Inv X pins σ H' { s' with heap:=h' }:=by
  have nC:∀ b o,s.heap.get? b=some o→b≠s.heap.objs.size:=fun b o e=>Nat.ne_of_lt (Heap.lt_size e)
  have hfr:H' s.heap.objs.size=none:=J.free
  have u:Un (frs X.stack) fp H H' s.heap s'.heap:=J.base
  have ok:HOk X.prog X.w H' h':=fun b ob e=>by
    refine (J.hok b ob e).stay (fun c w' hc q=>(hs.2 c ?_).trans q) (fun _ q=>q) fun _ _ q=>q
    rintro rfl
    rcases hc with rfl | hc
    · rw[hfr] at e;cases e
    · rw[hfr] at hc;cases hc
  refine I.call' (ch:=fp) J.os ⟨fun b o e n h1 h2=>(hs.2 b (nC b o e)).trans (u.keep b o e n h1 h2),fun b o e n h1 h2=>?_,u.free,fun b o e h2=>?_,u.tups,u.frzs,u.tbls⟩ ok J.bare fun b hb=>?_
  · obtain ⟨sl,q⟩:=u.slot b o e n h1 h2
    exact ⟨sl,(hs.2 b (nC b o e)).trans q⟩
  · obtain ⟨o',q⟩:=u.there b o e h2
    exact ⟨o',(hs.2 b (nC b o e)).trans q⟩
  · obtain ⟨_,f1,_,f3,f4,f5⟩:=hf b hb
    exact ⟨f3,f1,f4,f5⟩
end
def PIfs (X:Cx) (ifs:List Expr) (t:TT):Prop:=
  ∀ (pins:List (Addr×Obj)) (s:Shared) (σ:St) (H:Hp) (Q:Bool→Hp→Prop),Inv X pins σ H s→t σ H Q →
    wpAny (model X.prog X.w) X.A (forIn ifs true fun c r=>if r=true then do let ok ←isTrue c X.env (eval c X.env);pure (ForInStep.yield ok) else pure (ForInStep.yield r)) (TP X pins σ Q) X.xe s
def tAll:TT:=fun _ H Q=>Q true H
theorem pifs_nil {X:Cx}:PIfs X [] tAll:=fun _ _ _ H _ I h=>wpAny_tests_nil ⟨H,I,h⟩
theorem pifs_one {X:Cx} {c:Expr} {t:TT} (h:PT X c t):PIfs X [c] t:=fun pins s σ H Q I q=>wpAny_tests_one (h pins s σ H Q I q)
theorem compLoop_any {prog:Program} {w:World} {A:Around} {R:Result→Shared→Prop} {s:Shared} {el tgt iter:Expr} {ifs:List Expr} {scp:Scope} {pos:Pos} {it acc:Value} {env:Env} (W:Nat→Shared→Prop)
    (turn:∀ n s,W n s→wpAny (model prog w) A (pyNext it) (fun r s₁=>match r with
      | none=>R (.ok .next) s₁
      | some v=>wpAny (model prog w) A (letOwnedTupleGo tgt it v) (fun _ s₁'=>wpAny (model prog w) A (assign tgt env v) (fun _ s₂=>
          wpAny (model prog w) A (forIn ifs true fun c r=>if r=true then do let ok ←isTrue c env (eval c env);pure (ForInStep.yield ok) else pure (ForInStep.yield r)) (fun ok s₃=>
            if ok=true then wpAny (model prog w) A (eval el env) (fun x s₄=>
              wpAny (model prog w) A (call (.builtin "list.append") [acc,x]) (fun _ s₅=>∃ m,m < n∧W m s₅) (fun _ _=>False) s₄) (fun _ _=>False) s₃
            else ∃ m,m < n∧W m s₃) (fun _ _=>False) s₂) (fun _ _=>False) s₁') (fun _ _=>False) s₁) (fun _ _=>False) s)
    (n:Nat) (h:W n s):codeAny (model prog w) A (.compLoop (.ListComp el [⟨tgt,iter,ifs,0⟩] scp pos) 0 it acc env) R s:=by
  refine codeAny_loop rfl W (fun n s hI=>?_) n h
  show wpAny _ A ((compTurn (.ListComp el [⟨tgt,iter,ifs,0⟩] scp pos) 0 it acc env).onRaise (fun x=>do noteFrame x env;theTreesLotGoes x)) _ _ s
  refine wpAny_noted ?_
  rw[compTurn_list]
  refine wpAny_bind (wpAny_standAt (wpAny_bind (wpAny_mono (turn n s hI) (fun r s1 q1=>?_) fun _ _ z=>z.elim)))
  cases r with
  | none=>exact wpAny_pure q1
  | some v=>
    refine wpAny_bind (wpAny_mono q1 (fun _ s1' q1'=>?_) fun _ _ z=>z.elim)
    refine wpAny_bind (wpAny_mono q1' (fun _ s2 q2=>wpAny_bind (wpAny_mono q2 (fun ok s3 q3=>?_) fun _ _ z=>z.elim)) fun _ _ z=>z.elim)
    cases ok with
    | false=>exact wpAny_pure ⟨rfl,q3⟩
    | true=>exact wpAny_bind (wpAny_bind (wpAny_mono q3 (fun x s4 q4=>wpAny_bind (wpAny_mono q4 (fun _ s5 q5=>wpAny_pure (wpAny_pure ⟨rfl,q5⟩)) fun _ _ z=>z.elim)) fun _ _ z=>z.elim))
end L2
set_option Elab.async false
set_option linter.all false
set_option maxRecDepth 100000
namespace L2
open PySem PySem.Spec PyProof.Rows
def tComp (ix:List (Option Nat)) (wi:TI) (g:TG) (tt:TT) (te:TE):TE:=fun σ H Q=>wi σ H fun J H1=>∀ acc,H1 acc=none→∃ W:Nat→Nat→St→Hp→Prop,(∃ m,W 0 m (pick ix σ) (upd H1 acc (.lst []))) ∧
  ∀ i m τ H2,W i m τ H2→(J.stop i H2∧Q (.ref acc) H2)∨(J.go i H2∧∃ Nx:St→Hp→Prop,(∀ τ' H',Nx τ' H'→∃ m',m' < m∧W (i + 1) m' τ' H') ∧
    ∀ x H3,J.yld i H2 x H3→g x τ H3 fun τ2 H4=>tt τ2 H4 fun b H5=>if b=true then te τ2 H5 fun y H6=>∃ ys,H6 acc=some (.lst ys)∧ys.length < sizeLine∧Nx τ2 (upd H6 acc (.lst (ys++[y]))) else Nx τ2 H5)
section
variable {X:Cx} {sc:Scope} {N:List Str} {ix:List (Option Nat)} {elt tg iter:Expr} {ifs:List Expr} {pos:Pos} {wi:TI} {g:TG} {tt:TT} {te:TE}
theorem comp_block {Q:VK} {pins:List (Addr×Obj)} {s:Shared} {σ:St} {H:Hp} {it:Addr} {fp:List Addr} {tn:Nat→Heap→Prop} {J:It} {RR:Value→Addr→Result→Shared→Prop}
    (hc:X.calm=true) (S:CmpScope X sc) (hix:idxOk N X.N sc ix=true)
    (hg:∀ fp s₀ H₀ pn,PG (bx X sc N fp s₀ H₀ pn) tg g) (ht:∀ fp s₀ H₀ pn,PIfs (bx X sc N fp s₀ H₀ pn) ifs tt) (he:∀ fp s₀ H₀ pn,PE (bx X sc N fp s₀ H₀ pn) elt te)
    (I:Inv X pins σ H s) (T:Turn X.prog X.w X.K tg J fp it tn) (st:tn 0 s.heap) (hf:∀ b∈fp,FpOk X pins H b)
    (q:∀ acc,H acc=none→∃ W:Nat→Nat→St→Hp→Prop,(∃ m,W 0 m (pick ix σ) (upd H acc (.lst []))) ∧
      ∀ i m τ H2,W i m τ H2→(J.stop i H2∧Q (.ref acc) H2)∨(J.go i H2∧∃ Nx:St→Hp→Prop,(∀ τ' H',Nx τ' H'→∃ m',m' < m∧W (i + 1) m' τ' H') ∧
        ∀ x H3,J.yld i H2 x H3→g x τ H3 fun τ2 H4=>tt τ2 H4 fun b H5=>if b=true then te τ2 H5 fun y H6=>∃ ys,H6 acc=some (.lst ys)∧ys.length < sizeLine∧Nx τ2 (upd H6 acc (.lst (ys++[y]))) else Nx τ2 H5))
    (hR:∀ (acc:Addr) (s₃ s':Shared) (τ:St) (H':Hp),Inv X pins σ (upd H acc (.lst [])) s₃→(∀ b∈fp,FpOk X pins (upd H acc (.lst [])) b)→Inv (bx X sc N fp s₃ (upd H acc (.lst [])) (X.pn++pins)) [] τ H' s'→Q (.ref acc) H' →
      RR (.ref acc) s₃.heap.objs.size (.ok .next) s'):
    wpAny (model X.prog X.w) X.A (newList []) (fun acc s₃=>wpAny (model X.prog X.w) X.A (newFunctionEnv sc X.env.globals (clOf X.env.cells sc.names []) [] X.env.qual none .none (some X.env)) (fun cenv s₄=>
      codeAny (model X.prog X.w) X.A (.compStart (.ListComp elt [⟨tg,iter,ifs,0⟩] sc pos) 0 (.ref it) acc { cenv with scope:=relabel sc X.env }) (RR acc cenv.locals) s₄) X.xe s₃) X.xe s:=by
  refine wpAny_newObj_type ?_
  have hfr:=I.fresh
  have I3:=I.lnew (its:=[]) (ys:=[]) (t':=s.toks) .nil (Nat.zero_le _)
  have fne:∀ b∈fp,b < s.heap.objs.size:=fun b hb=>by
    obtain ⟨o,e,_⟩:=T.obj 0 _ st b hb
    exact Heap.lt_size e
  have hf3:∀ b∈fp,FpOk X pins (upd H s.heap.objs.size (.lst [])) b:=fun b hb=>by
    obtain ⟨f0,f⟩:=hf b hb
    refine ⟨?_,f⟩
    rw[upd_ne (Nat.ne_of_lt (fne b hb))]
    exact f0
  have q3:=q _ hfr
  have st3:tn 0 (s.heap.push { cls:=.type "list",data:=.seq ([]:List Value).toArray }):=T.keep _ _ _ st fun b _ o e=>Heap.get?_push_of_some _ e
  generalize e3:({ s with heap:=s.heap.push { cls:=.type "list",data:=.seq ([]:List Value).toArray },toks:=s.toks }:Shared)=s3 at I3
  have es3:s3.heap=s.heap.push { cls:=.type "list",data:=.seq ([]:List Value).toArray }:=by rw[←e3]
  rw[←es3] at st3
  have hf3':∀ b∈fp,FpOk X pins (upd H s.heap.objs.size (.lst [])) b∧b < s3.heap.objs.size:=fun b hb=>⟨hf3 b hb,by rw[es3,Heap.size_push];exact Nat.lt_succ_of_lt (fne b hb)⟩
  refine wpAny_newFunctionEnv S.nocell (by intro y hy;cases hy) (fun h₁ hns₁ hsb₁=>?_) S.kind
  have hk:∀ b o,s3.heap.get? b=some o→h₁.get? b=some o:=fun b o e=>hsb₁.extBut b o (Nat.ne_of_lt (Heap.lt_size e)) (Heap.get?_push_of_some _ e)
  have I4:=I3.block (N:=N) (ix:=ix) (tk:=s3.toks + ([]:List (Str×Value)).length) S hix hf3' hk hns₁
  have st4:tn 0 h₁:=T.keep _ _ _ st3 fun b _ o e=>hk b o e
  obtain ⟨W,⟨m0,w0⟩,turn⟩:=q3
  have statN:∀ {H':Hp},(∀ b∈fp,H' b=none)→∀ b∈fp,FpOk (bx X sc N fp s3 (upd H s.heap.objs.size (.lst [])) (X.pn++pins)) [] H' b:=fun {H'} hn b hb=>by
    obtain ⟨⟨_,f1,f2,f3,f4,f5⟩,hlt⟩:=hf3' b hb
    refine ⟨hn b hb,Nat.ne_of_lt hlt,fun z=>?_,.inl hb,fun x c e=>f4 x c (I3.clcell S e),fun p hp=>?_⟩
    · rcases List.mem_cons.mp (I3.stkSub b z) with z | z
      · exact f1 z
      · exact f2 z
    · refine f5 p ?_
      rcases List.mem_append.mp hp with z | z
      · exact z
      · cases z
  have loop:∀ s4:Shared,s4={ s3 with heap:=h₁,toks:=s3.toks + ([]:List (Str×Value)).length } →
      codeAny (model X.prog X.w) X.A (.compLoop (.ListComp elt [⟨tg,iter,ifs,0⟩] sc pos) 0 (.ref it) (.ref s.heap.objs.size) (compEnvC sc (clOf X.env.cells sc.names []) s3.heap.objs.size X.env)) (RR (.ref s.heap.objs.size) s3.heap.objs.size) s4:=by
    rintro s4 rfl
    refine compLoop_any (fun n s'=>∃ i τ H',Inv (bx X sc N fp s3 (upd H s.heap.objs.size (.lst [])) (X.pn++pins)) [] τ H' s'∧tn i s'.heap∧(∀ b∈fp,H' b=none)∧W i n τ H') ?_ m0 ⟨0,_,_,I4,st4,fun b hb=>(hf3 b hb).1,w0⟩
    rintro n s5 ⟨i,τ,H5,I5,st5,fr5,w5⟩
    rcases turn i n τ H5 w5 with ⟨stop,qn⟩ | ⟨go,Nx,hN,step⟩
    · refine thn (T.done (bx X sc N fp s3 (upd H s.heap.objs.size (.lst [])) (X.pn++pins)) rfl rfl rfl hc i [] s5 τ H5 (fun _ _=>False) I5 (statN fr5) st5 stop) fun r s6 ⟨hr,I6⟩=>?_
      subst hr
      exact hR _ _ _ _ _ I3 hf3 I6 qn
    · refine thn (T.item (bx X sc N fp s3 (upd H s.heap.objs.size (.lst [])) (X.pn++pins)) rfl rfl rfl hc i [] s5 τ H5 (fun _ _=>False) I5 (statN fr5) st5 go) fun r s6 ⟨u,hr,h6⟩=>?_
      subst hr
      refine thn h6 fun _ s7 ⟨x,H7,I7,r7,y7,st7,fr7⟩=>?_
      have I7':=I7.pinned (statN fr7) (T.obj _ _ st7)
      refine thn (hg _ _ _ _ _ s7 τ H7 x u _ I7' r7 (step x H7 y7)) fun _ s8 ⟨τ8,H8,I8,q8⟩=>?_
      have again:∀ {s9:Shared} {τ9:St} {H9:Hp},Inv (bx X sc N fp s3 (upd H s.heap.objs.size (.lst [])) (X.pn++pins)) ([]++pinsAt fp s7.heap) τ9 H9 s9→Nx τ9 H9 →
          ∃ m,m < n∧∃ i τ H',Inv (bx X sc N fp s3 (upd H s.heap.objs.size (.lst [])) (X.pn++pins)) [] τ H' s9∧tn i s9.heap∧(∀ b∈fp,H' b=none)∧W i m τ H':=fun {s9 τ9 H9} I9 n9=>by
        obtain ⟨m',hm,w9⟩:=hN τ9 H9 n9
        refine ⟨m',hm,i + 1,τ9,H9,I9.unpinned,T.keep _ _ _ st7 fun b hb o e=>(I9.pin (b,o) (List.mem_append_right _ (List.mem_append_right _ (mem_pinsAt hb e)))).1,fun b hb=>?_,w9⟩
        obtain ⟨o,e,d⟩:=T.obj _ _ st7 b hb
        exact (I9.pin (b,o) (List.mem_append_right _ (List.mem_append_right _ (mem_pinsAt hb e)))).2.1
      refine thn (ht _ _ _ _ _ s8 τ8 H8 _ I8 q8) fun ok s9 ⟨H9,I9,q9⟩=>?_
      cases ok with
      | false=>exact again I9 q9
      | true=>
        rw[if_pos rfl] at q9 ⊢
        refine thn (he _ _ _ _ _ s9 τ8 H9 _ I9 q9) fun yv s10 ⟨y,H10,I10,r10,ys,ha,hz,q10⟩=>?_
        refine thn (mt_append _ s10 τ8 H10 (.ref s.heap.objs.size) [y] (.ref s.heap.objs.size) [yv] (fun v H'=>v=.non∧Nx τ8 H') I10 rfl (.cons r10 .nil) ⟨_,ys,y,rfl,rfl,ha,hz,rfl,q10⟩) fun _ s11 ⟨_,H11,I11,_,_,q11⟩=>?_
        exact again I11 q11
  exact codeAny_compStart_list (loop _ rfl) (T.self _ 0 _ _ _ st4 (loop _ rfl))
theorem pe_comp (hc:X.calm=true) (S:CmpScope X sc) (hix:idxOk N X.N sc ix=true) (hi:PI X tg iter wi)
    (hg:∀ fp s₀ H₀ pn,PG (bx X sc N fp s₀ H₀ pn) tg g) (ht:∀ fp s₀ H₀ pn,PIfs (bx X sc N fp s₀ H₀ pn) ifs tt) (he:∀ fp s₀ H₀ pn,PE (bx X sc N fp s₀ H₀ pn) elt te)
    (hs:∀ x,foldedSetIterable iter X.env x=pure x:=by intro _;rfl):PE X (.ListComp elt [⟨tg,iter,ifs,0⟩] sc pos) (tComp ix wi g tt te):=by
  intro pins s σ H Q I h
  rw[eval_ListComp]
  refine wpAny_comprehension_free (use:=none) rfl hs (closure_is (I.capt S)) S.kind S.loc (thn (hi pins s σ H _ I h) fun v s1 h1=>thn h1 fun itv s2 h2=>?_)
  obtain ⟨it,fp,tn,J,H2,e,I2,T,st2,f2,q⟩:=h2
  subst e
  refine comp_block (Q:=Q) (RR:=fun acc C=>compPost (model X.prog X.w) X.A X.xe none (EP X pins σ Q) acc C) hc S hix hg ht he I2 T st2 f2 q ?_
  intro acc s3 s' τ H' I3 hf3 J' qq
  obtain ⟨m,hn,_⟩:=J'.loc
  exact ⟨m,hn,fun h' hs'=>⟨.ref acc,H',I3.unblock hf3 J' hs',rfl,qq⟩⟩
theorem ps_comp {i:Nat} {x:Str} {px spos:Pos} (hsw:swapsWith (.ListComp elt [⟨tg,iter,ifs,0⟩] sc pos) (some (.Name x px)) spos.line X.env=pure true)
    (hN:X.N.Nodup) (hi':X.N[i]?=some x) (hx:X.env.scope.names.lookup x=some .local) (hc:X.calm=true) (S:CmpScope X sc) (hix:idxOk N X.N sc ix=true) (hi:PI X tg iter wi)
    (hg:∀ fp s₀ H₀ pn,PG (bx X sc N fp s₀ H₀ pn) tg g) (ht:∀ fp s₀ H₀ pn,PIfs (bx X sc N fp s₀ H₀ pn) ifs tt) (he:∀ fp s₀ H₀ pn,PE (bx X sc N fp s₀ H₀ pn) elt te)
    (hs:∀ x,foldedSetIterable iter X.env x=pure x:=by intro _;rfl):PS X (.Assign [.Name x px] (.ListComp elt [⟨tg,iter,ifs,0⟩] sc pos) spos) (tAsg (tComp ix wi g tt te) (gName i)):=by
  intro pins s σ H D I h
  rw[exec_Assign_Name_used _ _ _ _ hsw]
  refine wpAny_bind (wpAny_standAt (wpAny_bind ?_))
  show wpAny _ X.A (do let _ ←comprehension (.ListComp elt [⟨tg,iter,ifs,0⟩] sc pos) sc X.env _ (newList []) false (eval iter X.env) (some (assign (.Name x px) X.env))) _ _ s
  refine wpAny_bind (wpAny_mono (wpAny_comprehension_free (use:=some (assign (.Name x px) X.env)) (Q:=fun _ s'=>SP X pins D .next s') rfl hs (closure_is (I.capt S)) S.kind S.loc
    (thn (hi pins s σ H _ I h) fun v s1 h1=>thn h1 fun itv s2 h2=>?_)) (fun _ s' hq=>wpAny_pure (wpAny_pure hq)) fun _ _ z=>z)
  obtain ⟨it,fp,tn,J,H2,e,I2,T,st2,f2,q⟩:=h2
  subst e
  refine comp_block (Q:=fun y H1=>gName i y σ H1 D.nx) (RR:=fun acc C=>compPost (model X.prog X.w) X.A X.xe (some (assign (.Name x px) X.env)) (fun _ s'=>SP X pins D .next s') acc C) hc S hix hg ht he I2 T st2 f2 q ?_
  intro acc s3 s' τ H' I3 hf3 J' qq
  show wpAny _ X.A (assign (.Name x px) X.env (.ref acc)) _ _ _
  have I5:Inv X pins σ H' s':=I3.unblock hf3 J' (.refl ..)
  obtain ⟨m,hn,_⟩:=J'.loc
  have hn:s'.heap.Ns s3.heap.objs.size m:=hn
  have hLC:s3.heap.objs.size≠X.env.locals:=Nat.ne_of_gt I3.lt
  refine wpAny_assign_Name (store_ok2 I5 hN hi' (.inl hx) (v:=.ref acc) rfl (fun s6 I6 ⟨a,sb,ha⟩=>?_) (.inr hx))
  have ea:a≠s3.heap.objs.size:=by
    rcases ha with ha | ha
    · rw[ha];exact Ne.symm hLC
    · obtain ⟨v,o,ho,_⟩:=I3.cell x a ha
      exact Nat.ne_of_lt (Heap.lt_size ho)
  refine ⟨m,hn.sameBut sb (Ne.symm ea),fun h' hs'=>?_⟩
  have hfr:H' s3.heap.objs.size=none:=J'.free
  refine ⟨_,H',?_,qq⟩
  have ok:HOk X.prog X.w H' h':=fun b ob e=>by
    refine (I6.hok b ob e).stay (fun c w' hc q=>(hs'.2 c ?_).trans q) (fun _ q=>q) fun _ _ q=>q
    rintro rfl
    rcases hc with rfl | hc
    · rw[hfr] at e;cases e
    · rw[hfr] at hc;cases hc
  have l3:X.s₀.heap.objs.size≤s3.heap.objs.size:=I3.sz
  have cne:∀ y c,X.env.cells.lookup y=some c→c≠s3.heap.objs.size:=fun y c e z=>by
    obtain ⟨v,o,ho,_⟩:=I3.cell y c e
    exact absurd (Heap.lt_size ho) (by rw[z];exact Nat.lt_irrefl _)
  exact I6.turned (t':=s6.toks) (it:=s3.heap.objs.size) (fun b o hb e=>(hs'.2 b hb).trans e) hfr hLC (.inr l3) cne fun p hp z=>by
    have:=(I3.pin p hp).1
    exact absurd (Heap.lt_size this) (by rw[z];exact Nat.lt_irrefl _)
end
end L2
set_option Elab.async false
set_option linter.all false
set_option maxRecDepth 100000
namespace L2
open PySem PySem.Spec PyProof.Rows
abbrev tx (l:List Nat):V:=.str ⟨l.toArray⟩
theorem tx_inj {a b:List Nat}:tx a=tx b↔a=b:=by
  constructor
  · intro h
    have h1:(⟨a.toArray⟩:Str)=⟨b.toArray⟩:=V.str.inj h
    have h2:a.toArray=b.toArray:=congrArg Str.cps h1
    simpa using h2
  · rintro rfl;rfl
theorem dec_tx {a b:List Nat}:decide (tx a=tx b)=decide (a=b):=by
  by_cases h:a=b
  · subst h;simp
  · rw[decide_eq_false h,decide_eq_false fun z=>h (tx_inj.mp z)]
theorem txlen (l:List Nat):(⟨l.toArray⟩:Str).length=l.length:=by
  show l.toArray.size=l.length
  simp
def rT (C:List Nat→List Nat→Prop) (g:List Nat→List Nat→V):R2:=fun x y H Q=>∃ a b,x=tx a∧y=tx b∧C a b∧Q (g a b) H
def cut {α:Type} (l:List α) (lo hi:Option Int):List α:=(l.drop (HT.sIx l.length 0 lo)).take (HT.sIx l.length l.length hi - HT.sIx l.length 0 lo)
theorem cut_length {α:Type} (l:List α) (lo hi:Option Int):(cut l lo hi).length≤l.length:=by
  unfold cut
  rw[List.length_take,List.length_drop]
  omega
theorem cut_nn {α:Type} (l:List α) (a b:Nat):cut l (some (a:Int)) (some (b:Int))=(l.drop a).take (b - a):=by
  unfold cut
  rw[HT.sIx_nat,HT.sIx_nat]
  apply List.ext_getElem?
  intro i
  simp only[List.getElem?_take,List.getElem?_drop]
  by_cases h1:i < min b l.length - min a l.length
  · rw[if_pos h1,if_pos (by omega)]
    congr 1;omega
  · rw[if_neg h1]
    by_cases h2:i < b - a
    · rw[if_pos h2,List.getElem?_eq_none (by omega)]
    · rw[if_neg h2]
theorem cut_to {α:Type} (l:List α) (b:Nat):cut l none (some (b:Int))=l.take b:=by
  unfold cut
  rw[HT.sIx_nat,HT.sIx_none]
  apply List.ext_getElem?
  intro i
  simp only[List.getElem?_take,List.getElem?_drop,Nat.zero_add,Nat.sub_zero]
  by_cases h1:i < min b l.length
  · rw[if_pos h1,if_pos (by omega)]
  · rw[if_neg h1]
    by_cases h2:i < b
    · rw[if_pos h2,List.getElem?_eq_none (by omega)]
    · rw[if_neg h2]
theorem cut_from {α:Type} (l:List α) (a:Nat):cut l (some (a:Int)) none=l.drop a:=by
  unfold cut
  rw[HT.sIx_nat,HT.sIx_none]
  apply List.ext_getElem?
  intro i
  simp only[List.getElem?_take,List.getElem?_drop]
  by_cases h1:i < l.length - min a l.length
  · rw[if_pos h1];congr 1;omega
  · rw[if_neg h1,List.getElem?_eq_none (by omega)]
def clp (n:Nat) (v:Option Int) (d:Int):Int:=match v with
  | none=>d
  | some i=>max 0 (min (if i < 0 then i + (n:Int) else i) (n:Int))
theorem clp_eq (n d:Nat) (o:Option Int):clp n o (d:Int)=((HT.sIx n d o:Nat):Int):=by
  cases o with
  | none=>rw[HT.sIx_none];rfl
  | some v=>
    have:=HT.clip_eq v n d
    unfold clp
    dsimp only
    rw[←this]
    split <;> omega
theorem strIdx_eq (lo hi:Option Int) (n:Nat):Builtin.Str.strSliceIndices lo hi 1 n=(List.range (HT.sIx n n hi - HT.sIx n 0 lo)).map fun k=>HT.sIx n 0 lo + k:=by
  have g:Builtin.Str.strSliceIndices lo hi 1 n=sliceRange (clp n lo ((0:Nat):Int)) (clp n hi (n:Int)) 1:=by
    cases lo <;> cases hi <;> rfl
  rw[g,clp_eq,clp_eq]
  generalize HT.sIx n 0 lo=a
  generalize HT.sIx n n hi=b
  unfold sliceRange
  have hc:(if (1:Int) > 0 then (if (a:Int) < (b:Int) then ((b:Int) - a + 1 - 1) / 1 else 0) else (if (a:Int) > (b:Int) then ((a:Int) - b - 1 - 1) / (-1) else 0)).toNat=b - a:=by
    simp only[show (1:Int) > 0 by decide,if_true,Int.ediv_one]
    split <;> omega
  dsimp only
  rw[hc]
  apply List.map_congr_left
  intro k _
  omega
theorem slice_tx (l:List Nat) (lo hi:Option Int):Txt.slice ⟨l.toArray⟩ lo hi=⟨(cut l lo hi).toArray⟩:=by
  have h1:=HT.sIx_le l.length 0 (Nat.zero_le _) lo
  have h2:=HT.sIx_le l.length l.length (Nat.le_refl _) hi
  unfold Txt.slice
  rw[txlen,strIdx_eq]
  have e:((List.range (HT.sIx l.length l.length hi - HT.sIx l.length 0 lo)).map fun k=>HT.sIx l.length 0 lo + k).filterMap (fun i=>l.toArray[i]?)=cut l lo hi:=by
    unfold cut
    generalize HT.sIx l.length 0 lo=a at *
    generalize HT.sIx l.length l.length hi=b at *
    have hab:∀ n,a + n≤l.length→((List.range n).map fun k=>a + k).filterMap (fun i=>l.toArray[i]?)=(l.drop a).take n:=by
      intro n
      induction n with
      | zero=>intro _;simp
      | succ n ih=>
        intro hn
        rw[List.range_succ,List.map_append,List.filterMap_append,ih (by omega),List.take_add_one]
        have:(l.drop a)[n]?=l[a + n]?:=List.getElem?_drop
        simp [this,List.getElem?_eq_getElem (show a + n < l.length by omega)]
    by_cases hle:a≤b
    · exact hab _ (by omega)
    · have:b - a=0:=by omega
      rw[this];simp
  split
  · rename_i hc
    simp only[beq_self_eq_true,Bool.true_and,List.length_map,List.length_range] at hc
    have hc':HT.sIx l.length l.length hi - HT.sIx l.length 0 lo=l.length:=by simpa using hc
    have:cut l lo hi=l:=by
      unfold cut
      have ha:HT.sIx l.length 0 lo=0:=by omega
      rw[hc',ha,List.drop_zero,List.take_of_length_le (Nat.le_refl _)]
    rw[this]
  · show (⟨(List.filterMap (fun i=>l.toArray[i]?) _).toArray⟩:Str)=_
    rw[e]
section
variable {X:Cx}
theorem op_add_tx:OpR X (binaryOp .Add) (rT (fun a b=>a.length + b.length≤sizeLine) fun a b=>tx (a++b)):=by
  rintro pins s σ H x y v u Q I rx ry ⟨a,b,rfl,rfl,hz,q⟩
  refine op_add_str pins s σ H _ _ v u Q I rx ry ⟨_,_,rfl,rfl,by rw[txlen,txlen];exact hz,?_⟩
  have e:((⟨a.toArray⟩:Str)++(⟨b.toArray⟩:Str))=⟨(a++b).toArray⟩:=by
    show (⟨a.toArray++b.toArray⟩:Str)=_
    simp
  rw[e];exact q
theorem op_in_sign:OpR X (compareOp .In) (fun x y H Q=>∃ c l,x=tx [c]∧y=tx l∧Q (.bl (decide (c∈l))) H):=by
  rintro pins s σ H x y v u Q I rx ry ⟨c,l,rfl,rfl,q⟩
  refine op_in_str pins s σ H _ _ v u Q I rx ry ⟨_,_,rfl,rfl,?_⟩
  have e:=StrLaws.found_one ⟨l.toArray⟩ c
  have e':(!(Builtin.Str.occurrences ⟨l.toArray⟩ ⟨[c].toArray⟩ 0 (⟨l.toArray⟩:Str).length 1).isEmpty)=decide (c∈l):=by
    rw[show ([c].toArray)=#[c] from rfl,e]
  rw[e'];exact q
theorem ix_tx:IxR X (fun x y H Q=>∃ l i c,x=tx l∧y=.int i∧l.length≤sizeLine∧atI l i=some c∧Q (tx [c]) H):=by
  rintro value slice pins s σ H x y v u Q I rx ry ⟨l,i,c,rfl,rfl,hz,h,q⟩ hs
  exact ix_str value slice pins s σ H _ _ v u Q I rx ry ⟨_,i,c,rfl,rfl,by rw[txlen];exact hz,h,q⟩ hs
theorem sl_tx:SlR X (fun x lo hi H Q=>∃ l,x=tx l∧l.length≤sizeLine∧Q (tx (cut l lo hi)) H):=by
  rintro pins s σ H x v vl vu lo hi sl Q I rx hs pl pu ⟨l,rfl,hz,q⟩
  obtain ⟨t,rfl⟩:=rx
  refine ⟨"str",_,F.slot_str_getitem.lookup,typeIs_str _ _ _,?_⟩
  have part:∀ {v:Value} {o:Option Int},IsPart v o→∃ p:Option (Int×Tok),v=partValue p∧p.map (·.1)=o:=fun {v o} h=>by
    cases h with
    | none=>exact ⟨none,rfl,rfl⟩
    | int i t=>exact ⟨some (i,t),rfl,rfl⟩
  obtain ⟨a,rfl,ea⟩:=part pl
  obtain ⟨b,rfl,eb⟩:=part pu
  refine wpAny_getItem_str_slice (l:=a) (u:=b) (st:=none) hs rfl ?_
  have e:(if ((1:Int) == 1&&(Builtin.Str.strSliceIndices lo hi 1 (⟨l.toArray⟩:Str).length).length == (⟨l.toArray⟩:Str).length)=true then (⟨l.toArray⟩:Str) else ⟨((Builtin.Str.strSliceIndices lo hi 1 (⟨l.toArray⟩:Str).length).filterMap ((⟨l.toArray⟩:Str).cps[·]?)).toArray⟩)=⟨(cut l lo hi).toArray⟩:=slice_tx l lo hi
  unfold sliceMade slicePicked
  rw[ea,eb]
  refine post_val_or_str ?_
  refine ⟨?_,fun t' k=>?_⟩
  · show (if ((1:Int) == 1&&(Builtin.Str.strSliceIndices lo hi 1 (⟨l.toArray⟩:Str).length).length == (⟨l.toArray⟩:Str).length)=true then (⟨l.toArray⟩:Str) else ⟨((Builtin.Str.strSliceIndices lo hi 1 (⟨l.toArray⟩:Str).length).filterMap ((⟨l.toArray⟩:Str).cps[·]?)).toArray⟩).length≤sizeLine
    rw[e,txlen]
    exact Nat.le_trans (cut_length _ _ _) hz
  · refine ⟨tx (cut l lo hi),H,I.tok _,⟨t',?_⟩,q⟩
    exact congrArg (fun z=>Value.str z t') e
theorem strsAre_tx:∀ {ls:List (List Nat)} {us:List Value},Vals (ls.map tx) us→StrsAre us (ls.map fun l=>(⟨l.toArray⟩:Str))
  | [],us,r=>by
    rw[List.map_nil] at r;cases r;exact .nil
  | l :: ls,us,r=>by
    rw[List.map_cons] at r
    cases r with
    | cons r1 r2=>
      obtain ⟨t,e⟩:=r1
      subst e
      exact .cons _ t (strsAre_tx r2)
end
def Its (l:List Nat):It:=⟨fun i _=>i < l.length,fun i H x H'=>H'=H∧∃ c,l[i]?=some c∧x=tx [c],fun i _=>l.length≤i⟩
theorem turn_text {P:Program} {w:World} {K:PySem.W.Frag} {tg:Expr} (l:List Nat) (t:Tok) (it:Addr) (ty:String) (hty:ty="str_ascii_iterator"∨ty="str_iterator"):Turn P w K tg (Its l) [it] it (fun i h=>h.IsStrIter it ty ⟨l.toArray⟩ t i) where
  mem:=by simp
  obj:=fun i h st b hb=>by
    have e:b=it:=by simpa using hb
    subst e
    obtain ⟨o,e,c,d⟩:=st
    exact ⟨o,e,fun v z=>by rw[d] at z;cases z⟩
  keep:=fun i h h' st k=>by
    obtain ⟨o,e,r⟩:=st
    exact ⟨o,k it (by simp) o e,r⟩
  item:=by
    intro X hP hw hK hc i pins s σ H E I hf st hg
    subst hP hw hK
    obtain ⟨f0,f1,f2,f3,f4,f5⟩:=hf it (by simp)
    have hg:i < l.length:=hg
    have hx:(⟨l.toArray⟩:Str).cps[i]?=some l[i]:=by
      show l.toArray[i]?=some l[i]
      simp [hg]
    have fin:∀ (h':Heap) (tk:Tok),h'.IsStrIter it ty ⟨l.toArray⟩ t (i + 1)→Heap.SameBut it s.heap h' →
        ∃ u,some (Value.str ⟨#[l[i]]⟩ s.toks)=some u∧wpAny (model X.prog X.w) X.A (letOwnedTupleGo tg (.ref it) u) (fun _ s2=>∃ x H',Inv X pins σ H' s2∧RelV x u∧(Its l).yld i H x H'∧s2.heap.IsStrIter it ty ⟨l.toArray⟩ t (i + 1)∧∀ b∈[it],H' b=none) E { s with heap:=h',toks:=tk }:=fun h' tk st' sb=>by
      have I1:Inv X pins σ H { s with heap:=h',toks:=tk }:=I.turned (t':=tk) (fun b o hb e=>(sb.2 b hb).trans e) f0 f1 f3 f4 f5
      obtain ⟨o,e,c,d⟩:=id st'
      refine ⟨_,rfl,go_of (s:={ s with heap:=h',toks:=tk }) e c d ?_ ⟨tx [l[i]],H,I1,⟨_,rfl⟩,⟨rfl,l[i],by simp [hg],rfl⟩,st',fun b hb=>(hf b hb).1⟩⟩
      rcases hty with rfl | rfl <;> decide
    rcases hty with rfl | rfl
    · exact wpAny_pyNext_ascii_item st hx fun h' st' sb=>fin h' _ st' sb
    · exact wpAny_pyNext_wide_item st hx fun h' st' sb=>fin h' _ st' sb
  done:=by
    intro X hP hw hK hc i pins s σ H E I hf st hg
    subst hP hw hK
    obtain ⟨f0,f1,f2,f3,f4,f5⟩:=hf it (by simp)
    have hg:l.length≤i:=hg
    have hx:(⟨l.toArray⟩:Str).cps[i]?=none:=by
      show l.toArray[i]?=none
      simp [hg]
    rcases hty with rfl | rfl
    · exact wpAny_pyNext_ascii_end (I.ok.hd hc) st hx fun h' eb=>⟨rfl,I.turned (t':=s.toks) (fun b o hb e=>eb b o hb e) f0 f1 f3 f4 f5⟩
    · exact wpAny_pyNext_wide_end (I.ok.hd hc) st hx fun h' eb=>⟨rfl,I.turned (t':=s.toks) (fun b o hb e=>eb b o hb e) f0 f1 f3 f4 f5⟩
  self:=by
    intro A i s Q E st h
    rcases hty with rfl | rfl
    · exact wpAny_pyIter_striter_ascii st h
    · exact wpAny_pyIter_striter_wide st h
section
variable {X:Cx} {tg:Expr}
def iText (tl:TE):TI:=fun σ H R=>tl σ H fun x H1=>∃ l,x=tx l∧R (Its l) H1
theorem pi_text {l:Expr} {tl:TE} (hl:PE X l tl):PI X tg l (iText tl):=by
  intro pins s σ H R I h
  refine thn (hl pins s σ H _ I h) fun v s1 ⟨x,H1,I1,r1,q1⟩=>?_
  obtain ⟨l,rfl,q⟩:=q1
  obtain ⟨t,rfl⟩:=r1
  have fin:∀ ty,(ty="str_ascii_iterator"∨ty="str_iterator")→PIE X pins σ tg R (.ref s1.heap.objs.size) { s1 with heap:=s1.heap.push { cls:=.type ty,data:=.fields #[.str ⟨l.toArray⟩ t,.int 0 0] } }:=fun ty hty=>by
    refine ⟨s1.heap.objs.size,[s1.heap.objs.size],_,_,H1,rfl,I1.kept (t':=s1.toks) fun b o e=>Heap.get?_push_of_some _ e,turn_text l t _ ty hty,⟨_,Heap.get?_push_size _ rfl,rfl,rfl⟩,fun b hb=>?_,q⟩
    have e:b=s1.heap.objs.size:=by simpa using hb
    subst e
    exact I1.fpOk (Nat.le_refl _) (I1.hok.fresh (Nat.le_refl _))
  cases ha:(⟨l.toArray⟩:Str).cps.all (· < 128)
  · exact wpAny_pyIter_wide ha (fin _ (.inr rfl))
  · exact wpAny_pyIter_ascii ha (fin _ (.inl rfl))
end
theorem for_text {l:List Nat} {g:TG} {tb:TS} {D:Ends} {σ:St} {H:Hp} (Pv:Nat→St→Hp→Prop) (h0:Pv 0 σ H)
    (hs:∀ i c σ H,l[i]?=some c→Pv i σ H→g (tx [c]) σ H fun σ2 H2=>tb { D with nx:=Pv (i + 1),ct:=Pv (i + 1),bk:=D.nx } σ2 H2) (hd:∀ σ H,Pv l.length σ H→D.nx σ H):
    ∃ W:Nat→Nat→St→Hp→Prop,(∃ m,W 0 m σ H)∧∀ i m σ H,W i m σ H →
      ((Its l).stop i H∧D.nx σ H)∨((Its l).go i H∧∃ N:St→Hp→Prop,(∀ σ' H',N σ' H'→∃ m',m' < m∧W (i + 1) m' σ' H')∧∀ x H',(Its l).yld i H x H'→g x σ H' fun σ2 H2=>tb { D with nx:=N,ct:=N,bk:=D.nx } σ2 H2):=by
  refine ⟨fun i m σ H=>m=l.length - i∧i≤l.length∧Pv i σ H,⟨l.length,by simp,Nat.zero_le _,h0⟩,?_⟩
  rintro i m σ H ⟨rfl,hi,p⟩
  by_cases hlt:i < l.length
  · refine .inr ⟨hlt,Pv (i + 1),fun σ' H' p'=>⟨l.length - (i + 1),by omega,rfl,hlt,p'⟩,fun x H' y=>?_⟩
    obtain ⟨e,c,hc,y⟩:=y
    subst e y
    exact hs i c σ _ hc p
  · have e:i=l.length:=by omega
    subst e
    exact .inl ⟨Nat.le_refl _,hd σ H p⟩
end L2
set_option Elab.async false
set_option linter.all false
set_option maxRecDepth 100000
namespace L2
open PySem PySem.Spec PyProof.Rows
inductive DT where
  | f (v:V)
  | l (xs:List DT)
  | t (xs:List DT)
section
variable (K:PySem.W.Frag) (H:Hp)
mutual
def DatOk:DT→V→Prop
  | .f w,v=>v=w∧flatV w=true
  | .l ds,v=>∃ a vs,v=.ref a∧SqL K H a vs∧DatsOk ds vs
  | .t ds,v=>∃ a vs,v=.ref a∧SqT K H a vs∧DatsOk ds vs
def DatsOk:List DT→List V→Prop
  | [],vs=>vs=[]
  | d :: ds,vs=>∃ v r,vs=v :: r∧DatOk d v∧DatsOk ds r
end
end
mutual
def deq:DT→DT→Bool
  | .f v,.f w=>eqV v w
  | .l xs,.l ys=>deqs xs ys
  | .t xs,.t ys=>deqs xs ys
  | .f _,.l _=>false
  | .f _,.t _=>false
  | .l _,.f _=>false
  | .t _,.f _=>false
  | .l _,.t _=>false
  | .t _,.l _=>false
def deqs:List DT→List DT→Bool
  | [],[]=>true
  | x :: xs,y :: ys=>deq x y&&deqs xs ys
  | [],_ :: _=>false
  | _ :: _,[]=>false
end
mutual
def dep:DT→Nat
  | .f _=>0
  | .l xs=>deps xs + 1
  | .t xs=>deps xs + 1
def deps:List DT→Nat
  | []=>0
  | x :: xs=>max (dep x) (deps xs)
end
theorem eqV_self {v:V} (h:flatV v=true):eqV v v=true:=by
  cases v <;> first | rfl | (simp [eqV];done) | exact absurd (show false=true from h) Bool.false_ne_true
theorem DatsOk.length {K:PySem.W.Frag} {H:Hp}:∀ {ds:List DT} {vs:List V},DatsOk K H ds vs→vs.length=ds.length
  | [],vs,h=>by
    unfold DatsOk at h;subst h;rfl
  | d :: ds,vs,h=>by
    unfold DatsOk at h
    obtain ⟨v,r,rfl,_,hr⟩:=h
    rw[List.length_cons,List.length_cons,DatsOk.length hr]
theorem DatsOk.get {K:PySem.W.Frag} {H:Hp}:∀ {ds:List DT} {vs:List V} {i:Nat} {v:V},DatsOk K H ds vs→vs[i]?=some v→∃ d,ds[i]?=some d∧DatOk K H d v
  | [],vs,i,v,h,e=>by
    unfold DatsOk at h;subst h;simp at e
  | d :: ds,vs,i,v,h,e=>by
    unfold DatsOk at h
    obtain ⟨v0,r,rfl,h0,hr⟩:=h
    cases i with
    | zero=>simp at e;subst e;exact ⟨d,rfl,h0⟩
    | succ i=>
      obtain ⟨d',h1,h2⟩:=DatsOk.get hr (i:=i) (by simpa using e)
      exact ⟨d',by simpa using h1,h2⟩
def pairDeq (xs ys:List DT) (j:Nat):Bool:=match xs[j]?,ys[j]? with
  | some x,some y=>deq x y
  | _,_=>false
theorem deqs_eq:∀ xs ys:List DT,deqs xs ys=((List.range (min xs.length ys.length)).all (pairDeq xs ys)&&xs.length == ys.length)
  | [],[]=>by simp [deqs]
  | [],_ :: _=>by simp [deqs]
  | _ :: _,[]=>by simp [deqs]
  | x :: xs,y :: ys=>by
    have e:min (x :: xs).length (y :: ys).length=min xs.length ys.length + 1:=by simp only[List.length_cons];omega
    have e2:∀ j,pairDeq (x :: xs) (y :: ys) (j + 1)=pairDeq xs ys j:=fun j=>by simp [pairDeq]
    have e3:pairDeq (x :: xs) (y :: ys) 0=deq x y:=by simp [pairDeq]
    rw[deqs,deqs_eq xs ys,e,List.range_succ_eq_map,List.all_cons,e3,List.all_map]
    have e4:((fun j=>pairDeq (x :: xs) (y :: ys) j) ∘ Nat.succ)=pairDeq xs ys:=by funext j;exact e2 j
    have e5:(pairDeq (x :: xs) (y :: ys) ∘ Nat.succ)=pairDeq xs ys:=e4
    rw[e5,Bool.and_assoc]
    simp
mutual
theorem DatOk.uniq {K:PySem.W.Frag} {X:Cx} {pins:List (Addr×Obj)} {σ:St} {H:Hp} {s:Shared} (I:Inv X pins σ H s):∀ (d e:DT) (v:V),DatOk X.K H d v→DatOk X.K H e v→deq d e=true
  | .f w,.f u,v,h1,h2=>by
    unfold DatOk at h1 h2
    obtain ⟨rfl,hf⟩:=h1
    obtain ⟨e,_⟩:=h2
    subst e
    unfold deq
    exact eqV_self hf
  | .f w,.l ys,v,h1,h2=>by
    unfold DatOk at h1 h2
    obtain ⟨rfl,hf⟩:=h1
    obtain ⟨a,vs,rfl,_⟩:=h2
    exact absurd (show false=true from hf) Bool.false_ne_true
  | .f w,.t ys,v,h1,h2=>by
    unfold DatOk at h1 h2
    obtain ⟨rfl,hf⟩:=h1
    obtain ⟨a,vs,rfl,_⟩:=h2
    exact absurd (show false=true from hf) Bool.false_ne_true
  | .l xs,.f w,v,h1,h2=>by
    unfold DatOk at h1 h2
    obtain ⟨rfl,hf⟩:=h2
    obtain ⟨a,vs,rfl,_⟩:=h1
    exact absurd (show false=true from hf) Bool.false_ne_true
  | .t xs,.f w,v,h1,h2=>by
    unfold DatOk at h1 h2
    obtain ⟨rfl,hf⟩:=h2
    obtain ⟨a,vs,rfl,_⟩:=h1
    exact absurd (show false=true from hf) Bool.false_ne_true
  | .l xs,.l ys,v,h1,h2=>by
    unfold DatOk at h1 h2
    obtain ⟨a,vs,rfl,q1,r1⟩:=h1
    obtain ⟨b,ws,e,q2,r2⟩:=h2
    cases e
    have:=I.list_inj q1 q2
    subst this
    unfold deq
    exact DatsOk.uniq (K:=K) I xs ys vs r1 r2
  | .t xs,.t ys,v,h1,h2=>by
    unfold DatOk at h1 h2
    obtain ⟨a,vs,rfl,q1,r1⟩:=h1
    obtain ⟨b,ws,e,q2,r2⟩:=h2
    cases e
    have:=I.tuple_inj q1 q2
    subst this
    unfold deq
    exact DatsOk.uniq (K:=K) I xs ys vs r1 r2
  | .l xs,.t ys,v,h1,h2=>by
    unfold DatOk at h1 h2
    obtain ⟨a,vs,rfl,q1,r1⟩:=h1
    obtain ⟨b,ws,e,q2,r2⟩:=h2
    cases e
    obtain ⟨_,_,⟨o,n,e1,c1,_⟩,_⟩:=I.list q1
    obtain ⟨_,_,⟨o',e2,c2,_⟩,_⟩:=I.tuple q2
    rw[e1] at e2;cases e2
    rw[c1] at c2;exact absurd c2 (by simp)
  | .t xs,.l ys,v,h1,h2=>by
    unfold DatOk at h1 h2
    obtain ⟨a,vs,rfl,q1,r1⟩:=h1
    obtain ⟨b,ws,e,q2,r2⟩:=h2
    cases e
    obtain ⟨_,_,⟨o',e2,c2,_⟩,_⟩:=I.tuple q1
    obtain ⟨_,_,⟨o,n,e1,c1,_⟩,_⟩:=I.list q2
    rw[e1] at e2;cases e2
    rw[c1] at c2;exact absurd c2 (by simp)
theorem DatsOk.uniq {K:PySem.W.Frag} {X:Cx} {pins:List (Addr×Obj)} {σ:St} {H:Hp} {s:Shared} (I:Inv X pins σ H s):∀ (xs ys:List DT) (vs:List V),DatsOk X.K H xs vs→DatsOk X.K H ys vs→deqs xs ys=true
  | [],[],vs,h1,h2=>by unfold deqs;rfl
  | [],y :: ys,vs,h1,h2=>by
    unfold DatsOk at h1 h2
    subst h1
    obtain ⟨_,_,e,_⟩:=h2
    cases e
  | x :: xs,[],vs,h1,h2=>by
    unfold DatsOk at h1 h2
    subst h2
    obtain ⟨_,_,e,_⟩:=h1
    cases e
  | x :: xs,y :: ys,vs,h1,h2=>by
    unfold DatsOk at h1 h2
    obtain ⟨v,r,rfl,a1,a2⟩:=h1
    obtain ⟨v',r',e,b1,b2⟩:=h2
    cases e
    unfold deqs
    rw[DatOk.uniq (K:=K) I x y v a1 b1,DatsOk.uniq (K:=K) I xs ys r a2 b2]
    rfl
end
section
variable {X:Cx} {pins:List (Addr×Obj)} {σ:St} {H:Hp} {s:Shared}
open SeqAt
theorem eqAt_fl {A:Around} {w:V} {u:Value} {l:Addr} {items:Array Value} (hf:flatV w=true) (r:RelV w u) (hl:s.heap.IsList l items) (hu:A.units < cLine):EqAt A s u (.ref l) false∧EqAt A s (.ref l) u false∧RcAt A s u (.ref l) false∧RcAt A s (.ref l) u false∧RcNeAt A s u (.ref l) true∧RcNeAt A s (.ref l) u true:=by
  cases w with
  | non=>cases r;exact ⟨.none_list hl hu,.list_none hl hu,.none_list hl hu,.list_none hl hu,.none_list hl hu,.list_none hl hu⟩
  | bl b=>cases r;exact ⟨.bool_list b hl hu,.list_bool b hl hu,.bool_list b hl hu,.list_bool b hl hu,.bool_list b hl hu,.list_bool b hl hu⟩
  | int i=>obtain ⟨t,rfl⟩:=r;exact ⟨.int_list i t hl hu,.list_int i t hl hu,.int_list i t hl hu,.list_int i t hl hu,.int_list i t hl hu,.list_int i t hl hu⟩
  | str i=>obtain ⟨t,rfl⟩:=r;exact ⟨.str_list i t hl hu,.list_str i t hl hu,.str_list i t hl hu,.list_str i t hl hu,.str_list i t hl hu,.list_str i t hl hu⟩
  | _=>exact absurd (show false=true from hf) Bool.false_ne_true
theorem eqAt_ft {A:Around} {w:V} {u:Value} {l:Addr} {items:Array Value} (hf:flatV w=true) (r:RelV w u) (hl:s.heap.IsTuple l items) (hu:A.units < cLine):EqAt A s u (.ref l) false∧EqAt A s (.ref l) u false∧RcAt A s u (.ref l) false∧RcAt A s (.ref l) u false∧RcNeAt A s u (.ref l) true∧RcNeAt A s (.ref l) u true:=by
  cases w with
  | non=>cases r;exact ⟨.none_tuple hl hu,.tuple_none hl hu,.none_tuple hl hu,.tuple_none hl hu,.none_tuple hl hu,.tuple_none hl hu⟩
  | bl b=>cases r;exact ⟨.bool_tuple b hl hu,.tuple_bool b hl hu,.bool_tuple b hl hu,.tuple_bool b hl hu,.bool_tuple b hl hu,.tuple_bool b hl hu⟩
  | int i=>obtain ⟨t,rfl⟩:=r;exact ⟨.int_tuple i t hl hu,.tuple_int i t hl hu,.int_tuple i t hl hu,.tuple_int i t hl hu,.int_tuple i t hl hu,.tuple_int i t hl hu⟩
  | str i=>obtain ⟨t,rfl⟩:=r;exact ⟨.str_tuple i t hl hu,.tuple_str i t hl hu,.str_tuple i t hl hu,.tuple_str i t hl hu,.str_tuple i t hl hu,.tuple_str i t hl hu⟩
  | _=>exact absurd (show false=true from hf) Bool.false_ne_true
theorem rc_ll {A:Around} {l b:Addr} {ps qs:List Value} {xs ys:List DT} (hl:s.heap.IsList l ps.toArray) (hb:s.heap.IsList b qs.toArray) (n1:ps.length=xs.length) (n2:qs.length=ys.length) (hu:A.units < cLine)
    (he:∀ j (h1:j < ps.length) (h2:j < qs.length),EqAt A.in1 s ps[j] qs[j] (pairDeq xs ys j)):RcAt A s (.ref l) (.ref b) (deqs xs ys)∧RcNeAt A s (.ref l) (.ref b) (!deqs xs ys):=by
  rw[deqs_eq]
  by_cases hz:ps.length=qs.length
  · have hsz:ps.toArray.size=qs.toArray.size:=by rw[List.size_toArray,List.size_toArray];exact hz
    have e1:((List.range (min xs.length ys.length)).all (pairDeq xs ys)&&xs.length == ys.length)=(List.range ps.toArray.size).all (pairDeq xs ys):=by
      have:xs.length=ys.length:=by omega
      rw[List.size_toArray,n1,←this,Nat.min_self]
      simp
    rw[e1]
    exact ⟨RcAt.lists hl hb hsz hu fun j j1 j2=>by simpa using he j (by simpa using j1) (by simpa using j2),RcNeAt.lists hl hb hsz hu fun j j1 j2=>by simpa using he j (by simpa using j1) (by simpa using j2)⟩
  · have e1:((List.range (min xs.length ys.length)).all (pairDeq xs ys)&&xs.length == ys.length)=false:=by
      have:xs.length≠ys.length:=by omega
      simp [this]
    rw[e1]
    have hsz:(ps.toArray.size != qs.toArray.size)=true:=by rw[List.size_toArray,List.size_toArray];simpa using hz
    exact ⟨RcAt.lists_lengths hl hb hsz hu,RcNeAt.lists_lengths hl hb hsz hu⟩
theorem rc_tt {A:Around} {l b:Addr} {ps qs:List Value} {xs ys:List DT} (hl:s.heap.IsTuple l ps.toArray) (hb:s.heap.IsTuple b qs.toArray) (n1:ps.length=xs.length) (n2:qs.length=ys.length) (hu:A.units < cLine)
    (he:∀ j (h1:j < ps.length) (h2:j < qs.length),EqAt A.in1 s ps[j] qs[j] (pairDeq xs ys j)):RcAt A s (.ref l) (.ref b) (deqs xs ys)∧RcNeAt A s (.ref l) (.ref b) (!deqs xs ys):=by
  have e1:deqs xs ys=((List.range (min ps.toArray.size qs.toArray.size)).all (pairDeq xs ys)&&ps.toArray.size == qs.toArray.size):=by
    rw[deqs_eq,List.size_toArray,List.size_toArray,n1,n2]
  rw[e1]
  exact ⟨RcAt.tuples hl hb hu fun j j1 j2=>by simpa using he j (by simpa using j1) (by simpa using j2),RcNeAt.tuples hl hb hu fun j j1 j2=>by simpa using he j (by simpa using j1) (by simpa using j2)⟩
mutual
theorem eqAt_D (I:Inv X pins σ H s):∀ (d e:DT) (A:Around) (x y:V) (u v:Value),DatOk X.K H d x→DatOk X.K H e y→RelV x u→RelV y v→A.units + dep d < cLine→EqAt A s u v (deq d e)
  | .f w,.f w',A,x,y,u,v,h1,h2,ru,rv,hu=>by
    unfold DatOk at h1 h2
    obtain ⟨rfl,f1⟩:=h1
    obtain ⟨rfl,f2⟩:=h2
    unfold deq
    exact eqAt_V ru rv f1 f2
  | .f w,.l ys,A,x,y,u,v,h1,h2,ru,rv,hu=>by
    unfold DatOk at h1 h2
    obtain ⟨rfl,f1⟩:=h1
    obtain ⟨a,vs,rfl,q,_⟩:=h2
    cases rv
    obtain ⟨its,_,p,_⟩:=I.list q
    unfold deq
    exact (eqAt_fl f1 ru p.isList (by unfold dep at hu;omega)).1
  | .f w,.t ys,A,x,y,u,v,h1,h2,ru,rv,hu=>by
    unfold DatOk at h1 h2
    obtain ⟨rfl,f1⟩:=h1
    obtain ⟨a,vs,rfl,q,_⟩:=h2
    cases rv
    obtain ⟨its,_,p,_⟩:=I.tuple q
    unfold deq
    exact (eqAt_ft f1 ru (show s.heap.IsTuple a its.toArray from p) (by unfold dep at hu;omega)).1
  | .l xs,.f w,A,x,y,u,v,h1,h2,ru,rv,hu=>by
    unfold DatOk at h1 h2
    obtain ⟨rfl,f1⟩:=h2
    obtain ⟨a,vs,rfl,q,_⟩:=h1
    cases ru
    obtain ⟨its,_,p,_⟩:=I.list q
    unfold deq
    exact (eqAt_fl f1 rv p.isList (by omega)).2.1
  | .t xs,.f w,A,x,y,u,v,h1,h2,ru,rv,hu=>by
    unfold DatOk at h1 h2
    obtain ⟨rfl,f1⟩:=h2
    obtain ⟨a,vs,rfl,q,_⟩:=h1
    cases ru
    obtain ⟨its,_,p,_⟩:=I.tuple q
    unfold deq
    exact (eqAt_ft f1 rv (show s.heap.IsTuple a its.toArray from p) (by omega)).2.1
  | .l xs,.t ys,A,x,y,u,v,h1,h2,ru,rv,hu=>by
    unfold DatOk at h1 h2
    obtain ⟨a,vs,rfl,q,_⟩:=h1
    obtain ⟨b,ws,rfl,q',_⟩:=h2
    cases ru
    cases rv
    obtain ⟨its,_,p,_⟩:=I.list q
    obtain ⟨its',_,p',_⟩:=I.tuple q'
    unfold deq
    exact EqAt.list_tuple p.isList (show s.heap.IsTuple b its'.toArray from p') (by omega)
  | .t xs,.l ys,A,x,y,u,v,h1,h2,ru,rv,hu=>by
    unfold DatOk at h1 h2
    obtain ⟨a,vs,rfl,q,_⟩:=h1
    obtain ⟨b,ws,rfl,q',_⟩:=h2
    cases ru
    cases rv
    obtain ⟨its,_,p,_⟩:=I.tuple q
    obtain ⟨its',_,p',_⟩:=I.list q'
    unfold deq
    exact EqAt.tuple_list (show s.heap.IsTuple a its.toArray from p) p'.isList (by omega)
  | .l xs,.l ys,A,x,y,u,v,h1,h2,ru,rv,hu=>by
    by_cases hxy:x=y
    · subst hxy
      rw[DatOk.uniq (K:=X.K) I (.l xs) (.l ys) x h1 h2]
      unfold DatOk at h1
      obtain ⟨a,vs,rfl,_⟩:=h1
      cases ru
      cases rv
      exact EqAt.same _
    · unfold DatOk at h1 h2
      obtain ⟨a,vs,rfl,q,d1⟩:=h1
      obtain ⟨b,ws,rfl,q',d2⟩:=h2
      cases ru
      cases rv
      obtain ⟨its,r,p,_⟩:=I.list q
      obtain ⟨its',r',p',_⟩:=I.list q'
      unfold deq
      unfold dep at hu
      refine EqAt.of_refs (fun e=>hxy (by rw[e])) (rc_ll p.isList p'.isList (by rw[←r.length,d1.length]) (by rw[←r'.length,d2.length]) (by omega) fun j j1 j2=>?_).1
      exact eqAts_D I xs ys A.in1 vs ws its its' d1 d2 r r' (by show A.units + 1 + _ < _;omega) j j1 j2
  | .t xs,.t ys,A,x,y,u,v,h1,h2,ru,rv,hu=>by
    by_cases hxy:x=y
    · subst hxy
      rw[DatOk.uniq (K:=X.K) I (.t xs) (.t ys) x h1 h2]
      unfold DatOk at h1
      obtain ⟨a,vs,rfl,_⟩:=h1
      cases ru
      cases rv
      exact EqAt.same _
    · unfold DatOk at h1 h2
      obtain ⟨a,vs,rfl,q,d1⟩:=h1
      obtain ⟨b,ws,rfl,q',d2⟩:=h2
      cases ru
      cases rv
      obtain ⟨its,r,p,_⟩:=I.tuple q
      obtain ⟨its',r',p',_⟩:=I.tuple q'
      unfold deq
      unfold dep at hu
      refine EqAt.of_refs (fun e=>hxy (by rw[e])) (rc_tt (show s.heap.IsTuple a its.toArray from p) (show s.heap.IsTuple b its'.toArray from p') (by rw[←r.length,d1.length]) (by rw[←r'.length,d2.length]) (by omega) fun j j1 j2=>?_).1
      exact eqAts_D I xs ys A.in1 vs ws its its' d1 d2 r r' (by show A.units + 1 + _ < _;omega) j j1 j2
theorem eqAts_D (I:Inv X pins σ H s):∀ (xs ys:List DT) (A:Around) (vs ws:List V) (ps qs:List Value),DatsOk X.K H xs vs→DatsOk X.K H ys ws→Vals vs ps→Vals ws qs→A.units + deps xs < cLine →
    ∀ (j:Nat) (h1:j < ps.length) (h2:j < qs.length),EqAt A s ps[j] qs[j] (pairDeq xs ys j)
  | [],ys,A,vs,ws,ps,qs,d1,d2,r1,r2,hu,j,h1,h2=>by
    unfold DatsOk at d1
    subst d1
    cases r1
    exact absurd h1 (Nat.not_lt_zero _)
  | x :: xs,[],A,vs,ws,ps,qs,d1,d2,r1,r2,hu,j,h1,h2=>by
    unfold DatsOk at d2
    subst d2
    cases r2
    exact absurd h2 (Nat.not_lt_zero _)
  | x :: xs,y :: ys,A,vs,ws,ps,qs,d1,d2,r1,r2,hu,j,h1,h2=>by
    unfold DatsOk at d1 d2
    obtain ⟨v,vr,rfl,a1,a2⟩:=d1
    obtain ⟨w,wr,rfl,b1,b2⟩:=d2
    unfold deps at hu
    cases r1 with
    | cons ru rus=>
      cases r2 with
      | cons rv rvs=>
        cases j with
        | zero=>
          have:=eqAt_D I x y A v w _ _ a1 b1 ru rv (by omega)
          simpa [pairDeq] using this
        | succ j=>
          have:=eqAts_D I xs ys A vr wr _ _ a2 b2 rus rvs (by omega) j (Nat.lt_of_succ_lt_succ h1) (Nat.lt_of_succ_lt_succ h2)
          simpa [pairDeq] using this
end
theorem rcs_D (I:Inv X pins σ H s) {d e:DT} {A:Around} {x y:V} {u v:Value} (h1:DatOk X.K H d x) (h2:DatOk X.K H e y) (ru:RelV x u) (rv:RelV y v) (hu:A.units + dep d < cLine) (hn:¬ (flatV x=true∧flatV y=true)):
    RcAt A s u v (deq d e)∧RcNeAt A s u v (!deq d e):=by
  cases d with
  | f w=>
    unfold DatOk at h1
    obtain ⟨rfl,f1⟩:=h1
    cases e with
    | f w'=>
      unfold DatOk at h2
      obtain ⟨rfl,f2⟩:=h2
      exact absurd ⟨f1,f2⟩ hn
    | l ys=>
      unfold DatOk at h2
      obtain ⟨a,vs,rfl,q,_⟩:=h2
      cases rv
      obtain ⟨its,_,p,_⟩:=I.list q
      have z:=eqAt_fl (A:=A) f1 ru p.isList (by omega)
      unfold deq
      exact ⟨z.2.2.1,z.2.2.2.2.1⟩
    | t ys=>
      unfold DatOk at h2
      obtain ⟨a,vs,rfl,q,_⟩:=h2
      cases rv
      obtain ⟨its,_,p,_⟩:=I.tuple q
      have z:=eqAt_ft (A:=A) f1 ru (show s.heap.IsTuple a its.toArray from p) (by omega)
      unfold deq
      exact ⟨z.2.2.1,z.2.2.2.2.1⟩
  | l xs=>
    unfold DatOk at h1
    obtain ⟨a,vs,rfl,q,d1⟩:=h1
    cases ru
    obtain ⟨its,r,p,_⟩:=I.list q
    cases e with
    | f w=>
      unfold DatOk at h2
      obtain ⟨rfl,f1⟩:=h2
      have z:=eqAt_fl (A:=A) f1 rv p.isList (by omega)
      unfold deq
      exact ⟨z.2.2.2.1,z.2.2.2.2.2⟩
    | l ys=>
      unfold DatOk at h2
      obtain ⟨b,ws,rfl,q',d2⟩:=h2
      cases rv
      obtain ⟨its',r',p',_⟩:=I.list q'
      unfold deq
      unfold dep at hu
      exact rc_ll p.isList p'.isList (by rw[←r.length,d1.length]) (by rw[←r'.length,d2.length]) (by omega) fun j j1 j2=>eqAts_D I xs ys A.in1 vs ws its its' d1 d2 r r' (by show A.units + 1 + _ < _;omega) j j1 j2
    | t ys=>
      unfold DatOk at h2
      obtain ⟨b,ws,rfl,q',d2⟩:=h2
      cases rv
      obtain ⟨its',r',p',_⟩:=I.tuple q'
      unfold deq
      exact ⟨RcAt.list_tuple p.isList (show s.heap.IsTuple b its'.toArray from p') (by omega),RcNeAt.list_tuple p.isList (show s.heap.IsTuple b its'.toArray from p') (by omega)⟩
  | t xs=>
    unfold DatOk at h1
    obtain ⟨a,vs,rfl,q,d1⟩:=h1
    cases ru
    obtain ⟨its,r,p,_⟩:=I.tuple q
    cases e with
    | f w=>
      unfold DatOk at h2
      obtain ⟨rfl,f1⟩:=h2
      have z:=eqAt_ft (A:=A) f1 rv (show s.heap.IsTuple a its.toArray from p) (by omega)
      unfold deq
      exact ⟨z.2.2.2.1,z.2.2.2.2.2⟩
    | t ys=>
      unfold DatOk at h2
      obtain ⟨b,ws,rfl,q',d2⟩:=h2
      cases rv
      obtain ⟨its',r',p',_⟩:=I.tuple q'
      unfold deq
      unfold dep at hu
      exact rc_tt (show s.heap.IsTuple a its.toArray from p) (show s.heap.IsTuple b its'.toArray from p') (by rw[←r.length,d1.length]) (by rw[←r'.length,d2.length]) (by omega) fun j j1 j2=>eqAts_D I xs ys A.in1 vs ws its its' d1 d2 r r' (by show A.units + 1 + _ < _;omega) j j1 j2
    | l ys=>
      unfold DatOk at h2
      obtain ⟨b,ws,rfl,q',d2⟩:=h2
      cases rv
      obtain ⟨its',r',p',_⟩:=I.list q'
      unfold deq
      exact ⟨RcAt.tuple_list (show s.heap.IsTuple a its.toArray from p) p'.isList (by omega),RcNeAt.tuple_list (show s.heap.IsTuple a its.toArray from p) p'.isList (by omega)⟩
end
def rEqD (K:PySem.W.Frag) (neg:Bool):R2:=fun x y H Q=>(scal x y=true∧Q (.bl (if neg then !decide (x=y) else decide (x=y))) H) ∨
  ∃ d e,DatOk K H d x∧DatOk K H e y∧¬ (flatV x=true∧flatV y=true)∧dep d≤60∧Q (.bl (if neg then !deq d e else deq d e)) H
theorem op_eqD {X:Cx} (hu:X.A.units + 64 < cLine):OpR X (compareOp .Eq) (rEqD X.K false):=by
  intro pins s σ H x y v u Q I rx ry h
  rcases h with ⟨h1,q⟩ | ⟨d,e,h1,h2,hn,hd,q⟩
  · exact op_eq pins s σ H x y v u Q I rx ry ⟨h1,q⟩
  · exact (rcs_D I h1 h2 rx ry (by omega) hn).1 _ _ _ _ ⟨.bl _,H,I,rfl,q⟩
theorem op_neD {X:Cx} (hu:X.A.units + 64 < cLine):OpR X (compareOp .NotEq) (rEqD X.K true):=by
  intro pins s σ H x y v u Q I rx ry h
  rcases h with ⟨h1,q⟩ | ⟨d,e,h1,h2,hn,hd,q⟩
  · exact op_ne pins s σ H x y v u Q I rx ry ⟨h1,q⟩
  · exact (rcs_D I h1 h2 rx ry (by omega) hn).2 _ _ _ _ ⟨.bl _,H,I,rfl,q⟩
theorem DatOk.same {K:PySem.W.Frag} {H H':Hp} (hl:∀ a xs,SqL K H a xs→SqL K H' a xs) (ht:∀ a xs,SqT K H a xs→SqT K H' a xs):∀ {d:DT} {v:V},DatOk K H d v→DatOk K H' d v:=by
  have both:∀ d:DT,(∀ v,DatOk K H d v→DatOk K H' d v):=by
    intro d
    refine DT.rec (motive_1:=fun d=>∀ v,DatOk K H d v→DatOk K H' d v) (motive_2:=fun ds=>∀ vs,DatsOk K H ds vs→DatsOk K H' ds vs) ?_ ?_ ?_ ?_ ?_ d
    · intro w v h;unfold DatOk at h ⊢;exact h
    · intro xs ih v h
      unfold DatOk at h ⊢
      obtain ⟨a,vs,e,q,r⟩:=h
      exact ⟨a,vs,e,hl a vs q,ih vs r⟩
    · intro xs ih v h
      unfold DatOk at h ⊢
      obtain ⟨a,vs,e,q,r⟩:=h
      exact ⟨a,vs,e,ht a vs q,ih vs r⟩
    · intro vs h;unfold DatsOk at h ⊢;exact h
    · intro x xs h1 h2 vs h
      unfold DatsOk at h ⊢
      obtain ⟨v,r,e,a,b⟩:=h
      exact ⟨v,r,e,h1 v a,h2 r b⟩
  exact fun {d v} h=>both d v h
theorem Same.seqT {K:PySem.W.Frag} {H H':Hp} {a:Addr} {xs:List V} (e:Same H H') (h:SqT K H a xs):SqT K H' a xs:=by
  rcases h with (h | ⟨o,h⟩) | h
  · exact .inl (.inl (e _ _ h))
  · exact .inl (.inr ⟨o,e _ _ h⟩)
  · exact .inr h
theorem Same.dat {K:PySem.W.Frag} {H H':Hp} (e:Same H H') {d:DT} {v:V} (h:DatOk K H d v):DatOk K H' d v:=h.same (fun _ _ q=>e.seq q) (fun _ _ q=>e.seqT q)
theorem datsFlat {K:PySem.W.Frag} {H:Hp}:∀ {vs:List V},vs.all flatV=true→DatsOk K H (vs.map DT.f) vs
  | [],_=>by unfold DatsOk;rfl
  | v :: r,h=>by
    rw[List.all_cons,Bool.and_eq_true] at h
    rw[List.map_cons]
    unfold DatsOk
    exact ⟨v,r,rfl,by unfold DatOk;exact ⟨rfl,h.1⟩,datsFlat h.2⟩
theorem deps_flat (vs:List V):deps (vs.map DT.f)=0:=by
  induction vs with
  | nil=>rfl
  | cons v r ih=>rw[List.map_cons];unfold deps;rw[ih];rfl
theorem eqV_tx (a b:List Nat):eqV (tx a) (tx b)=decide (tx a=tx b):=by
  rw[dec_tx]
  show ((⟨a.toArray⟩:Str) == ⟨b.toArray⟩)=_
  by_cases h:a=b
  · subst h;simp
  · rw[decide_eq_false h]
    exact beq_eq_false_iff_ne.mpr fun z=>h (tx_inj.mp (congrArg V.str z))
theorem datL {K:PySem.W.Frag} {H:Hp} {a:Addr} {vs:List V} (h:SqL K H a vs) (hf:vs.all flatV=true):DatOk K H (.l (vs.map DT.f)) (.ref a):=by
  unfold DatOk
  exact ⟨a,vs,rfl,h,datsFlat hf⟩
theorem datT {K:PySem.W.Frag} {H:Hp} {a:Addr} {vs:List V} (h:SqT K H a vs) (hf:vs.all flatV=true):DatOk K H (.t (vs.map DT.f)) (.ref a):=by
  unfold DatOk
  exact ⟨a,vs,rfl,h,datsFlat hf⟩
theorem datF {K:PySem.W.Frag} {H:Hp} {v:V} (hf:flatV v=true):DatOk K H (.f v) v:=by
  unfold DatOk
  exact ⟨rfl,hf⟩
end L2
set_option Elab.async false
set_option linter.all false
set_option maxRecDepth 100000
namespace L2
open PySem PySem.Spec PyProof.Rows
open PySem.W (Frag findIn specialIn typeIn mroIn clsIn InstAt Looks)
def veMro:List Value:=[.type "ValueError",.type "Exception",.type "BaseException",.type "object"]
def isRefV:Value→Bool
  | .ref _=>true
  | _=>false
def xmro (l:List Value):Bool:=l.dropWhile isRefV == veMro
theorem xmro_ind {P:List Value→Prop} (h0:P veMro) (h1:∀ c r,P r→P (.ref c :: r)):∀ l:List Value,xmro l=true→P l
  | [],e=>by simp [xmro,veMro] at e
  | v :: r,e=>by
    cases hv:isRefV v with
    | true=>
      cases v with
      | ref c=>
        refine h1 c r (xmro_ind h0 h1 r ?_)
        unfold xmro at e ⊢
        rw[List.dropWhile_cons,if_pos hv] at e
        exact e
      | _=>cases hv
    | false=>
      unfold xmro at e
      rw[List.dropWhile_cons,if_neg (by rw[hv];exact Bool.false_ne_true)] at e
      rw[show (v :: r)=veMro by simpa using e]
      exact h0
theorem refuse_ve (self:Value):refuseLoop self "__setattr__" veMro=pure ():=by
  first | rfl | kernel_rfl
theorem refuse_x (self:Value) {l:List Value} (e:xmro l=true):refuseLoop self "__setattr__" l=pure ():=
  xmro_ind (P:=fun l=>refuseLoop self "__setattr__" l=pure ()) (refuse_ve self) (fun c r h=>by rw[refuseLoop_ref];exact h) l e
theorem xmro_has {n:String} {b:Bool} (h:veMro.contains (.type n)=b) {l:List Value} (e:xmro l=true):l.contains (.type n)=b:=
  xmro_ind (P:=fun l=>l.contains (.type n)=b) h (fun c r h=>by rw[List.contains_cons,h];rfl) l e
structure Xc (K:Frag) (C:Addr):Prop where
  ga:findIn K (.ref C) "__getattribute__"=some (some (.builtin "BaseException.__getattribute__"))
  gr:findIn K (.ref C) "__getattr__"=some none
  sa:findIn K (.ref C) "__setattr__"=some (some (.builtin "object.__setattr__"))
  hd:PySem.W.hasDictIn K C=true
  mr:(clsIn K C).any (fun cd=>xmro cd.mro)=true
theorem xmro_ne {l:List Value} (e:xmro l=true):l.isEmpty=false:=by
  cases l with
  | nil=>simp [xmro,veMro] at e
  | cons _ _=>rfl
theorem Xc.base {K:Frag} {C:Addr} (c:Xc K C) {n:String} {b:Bool} (h:veMro.contains (.type n)=b):mroIn K C (.type n)=some b:=by
  obtain ⟨cd,hc,hm⟩:=PySem.W.any_some c.mr
  unfold PySem.W.mroIn
  rw[hc,Option.bind_some,if_neg (by rw[xmro_ne hm];exact Bool.false_ne_true),xmro_has h hm]
def xo (a C:Addr) (d:Option Addr):HO:=.ext fun h=>∃ (o:Obj) (t:Addr),h.get? a=some o∧o.cls=.ref C∧o.dict=d∧o.data=.fields #[.ref t,.none,.none,.none,.bool false,.none]
def xdO (d:Addr) (fs:List (Str×V)):HO:=.ext fun h=>fs.length≤1000∧∃ mA,h.Ns1 d mA∧(∀ f,RelO (fs.lookup f) (mA f))∧PySem.Within mA (fs.map (·.1))
inductive XAt (H:Hp) (e C:Addr):List (Str×V)→Prop where
  | bare:H e=some (xo e C none)→XAt H e C []
  | full {d:Addr} {fs:List (Str×V)}:H e=some (xo e C (some d))→H d=some (xdO d fs)→d≠e→XAt H e C fs
theorem upd_id {H:Hp} {a:Addr} {o:HO} (h:H a=some o):upd H a o=H:=by
  funext b
  unfold upd
  by_cases hb:b=a
  · rw[if_pos hb,hb,h]
  · rw[if_neg hb]
theorem XAt.same {H H':Hp} {e C:Addr} {fs:List (Str×V)} (x:XAt H e C fs) (s:Same H H'):XAt H' e C fs:=by
  cases x with
  | bare h=>exact .bare (s _ _ h)
  | full h1 h2 h3=>exact .full (s _ _ h1) (s _ _ h2) h3
section
variable {X:Cx} {pins:List (Addr×Obj)} {σ:St} {H:Hp} {s:Shared} {e C:Addr} {fs:List (Str×V)} {f:Str} {v:V} {A:Around} {E:Value→Shared→Prop}
theorem xo_obj {d:Option Addr} (I:Inv X pins σ H s) (h:H e=some (xo e C d)):∃ (o:Obj) (t:Addr),s.heap.get? e=some o∧o.cls=.ref C∧o.dict=d∧o.data=.fields #[.ref t,.none,.none,.none,.bool false,.none]:=(I.hok e _ h).1
theorem xo_ok {P:Program} {w:World} {H:Hp} {h:Heap} {d:Option Addr} {o:Obj} {t:Addr} (h1:h.get? e=some o) (h2:o.cls=.ref C) (h3:o.dict=d) (h4:o.data=.fields #[.ref t,.none,.none,.none,.bool false,.none]):ObjOk P w H h e (xo e C d):=
  ⟨⟨o,t,h1,h2,h3,h4⟩,⟨o,h1⟩,fun a b ⟨o,t,q1,q⟩ k=>⟨o,t,k o q1,q⟩⟩
theorem xdO_ok {P:Program} {w:World} {H:Hp} {h:Heap} {d:Addr} {mA:Str→Option Value} (hz:fs.length≤1000) (h1:h.Ns1 d mA) (h2:∀ f,RelO (fs.lookup f) (mA f)) (h3:PySem.Within mA (fs.map (·.1))):ObjOk P w H h d (xdO d fs):=by
  obtain ⟨o,es,ep,ho,r⟩:=id h1
  refine ⟨⟨hz,mA,h1,h2,h3⟩,⟨o,ho⟩,fun a b ⟨hz,m,⟨o,es,ep,q,r⟩,z⟩ k=>⟨hz,m,⟨o,es,ep,k o q,r⟩,z⟩⟩
theorem XAt.inst (I:Inv X pins σ H s) (x:XAt H e C fs):∃ (ox:Obj) (od:Option Obj),InstAt s.heap e ox C od∧∀ name,∃ r,(match od with | some o=>PySem.W.lookIn name o | none=>some none)=some r∧RelO (fs.lookup name) r:=by
  cases x with
  | bare h=>
    obtain ⟨o,t,h1,h2,h3,h4⟩:=xo_obj I h
    exact ⟨o,none,⟨h1,h2,by unfold PySem.W.notCls;rw[h4],by rw[h3];trivial⟩,fun name=>⟨none,rfl,by trivial⟩⟩
  | @full d _ h h' hne=>
    obtain ⟨o,t,h1,h2,h3,h4⟩:=xo_obj I h
    obtain ⟨⟨_,mA,hn,hr,_⟩,_⟩:=I.hok d _ h'
    obtain ⟨od,hod,hl⟩:=lookIn_ns hn
    exact ⟨o,some od,⟨h1,h2,by unfold PySem.W.notCls;rw[h4],by rw[h3];exact hod⟩,fun name=>⟨mA name,hl name,hr name⟩⟩
theorem entry_bga:entryFor table "BaseException.__getattribute__"=some Builtin.«object.__getattribute__»:=F.entry_bexc_ga
theorem xset {y:V} {u:Value} {Q:Unit→Shared→Prop} (I:Inv X pins σ H s) (x:XAt H e C fs) (c:Xc X.K C) (n:NoAttr X.K C f) (hz:fs.length < 1000) (ry:RelV y u)
    (h:∀ s' H',Inv X pins σ H' s'→XAt H' e C (putF f y fs)→(∀ b o,H b=some o→b≠e→(∀ d,H e=some (xo e C (some d))→b≠d)→H' b=some o) →
      (∃ d,H' e=some (xo e C (some d))∧(H e=some (xo e C (some d))∨H d=none))→Q () s'):wpAny (model X.prog X.w) A (setAttr (.ref e) f u) Q E s:=by
  obtain ⟨ox,od,J,hr⟩:=x.inst I
  obtain ⟨cd,hc,hd'⟩:=PySem.W.any_some c.hd
  obtain ⟨cd',hc2,hm⟩:=PySem.W.any_some c.mr
  rw[hc] at hc2;cases hc2
  refine PySem.W.set_plain I.kIn J c.sa ?_
  have SF:=PySem.F.store_object
  have hne:=xmro_ne hm
  have KX:X.K.In ({ s with toks:=s.toks + 1 }:Shared).heap:=I.kIn
  have J1:InstAt ({ s with toks:=s.toks + 1 }:Shared).heap e ox C od:=J
  have L1:Looks (model X.prog X.w) s.heap (mroOf (.ref C)) cd.mro:=(PySem.W.looks_clsIn I.kIn hc).andThen .now
  have sub:Looks (model X.prog X.w) s.heap (isInstance (.ref e) (.type "object")) true:=J.type.andThen (PySem.W.looks_mroIn I.kIn (c.base (n:="object") (b:=true) (by decide +kernel)))
  refine codeAny_call_builtin SF.slot.plain SF.entry (@PySem.W.check_slot (model X.prog X.w) _ _ { s with toks:=s.toks + 1 } "object.__setattr__" "object" "__setattr__" (.ref e) [.str f s.toks,u] [] _ SF.kind SF.split sub (SF.args (.ref e) (.str f s.toks) u) ?_)
  rw[PySem.W.osa_eq,refuse_eq]
  refine wpAny_bind (wpAny_bind (Looks.here (s:={ s with toks:=s.toks + 1 }) J.type (wpAny_bind (Looks.here (s:={ s with toks:=s.toks + 1 }) L1 ?_))))
  rw[refuse_x _ hm]
  refine wpAny_pure (wpAny_bind (Looks.here (s:={ s with toks:=s.toks + 1 }) J.type (wpAny_bind (Looks.here (s:={ s with toks:=s.toks + 1 }) (PySem.W.looks_findIn I.kIn n) (wpAny_bind (wpAny_pure ?_))))))
  dsimp only
  refine wpAny_bind (wpAny_pure (wpAny_bind (wpAny_bind ?_)))
  have LC:=PySem.W.looks_clsIn (M:=model X.prog X.w) I.kIn hc
  cases x with
  | bare hb=>
    obtain ⟨o,t,h1,h2,h3,h4⟩:=xo_obj I hb
    obtain ⟨oc,odi,oda,osl⟩:=o
    dsimp only at h2 h3 h4
    subst h2 h3 h4
    refine wpAny_loadPart h1 (wpAny_bind (Looks.here (s:={ s with toks:=s.toks + 1 }) LC ?_))
    rw[hd']
    refine wpAny_bind (wpAny_alloc (wpAny_bind (wpAny_update (Heap.get?_push_of_some _ h1) (wpAny_pure ?_))))
    dsimp only
    refine wpAny_bind (wpAny_pure (wpAny_bind ?_))
    have hlt:e < s.heap.objs.size:=Heap.lt_size h1
    have hfr:=I.fresh
    have hed:s.heap.objs.size≠e:=Nat.ne_of_gt hlt
    have ee:(s.heap.push PySem.W.emptyDict).get? s.heap.objs.size=some PySem.W.emptyDict:=Heap.get?_push_size s.heap rfl
    have e2:((s.heap.push PySem.W.emptyDict).update e fun o=>{ o with dict:=some s.heap.objs.size }).get? e=some ⟨.ref C,some s.heap.objs.size,.fields #[.ref t,.none,.none,.none,.bool false,.none],osl⟩:=Heap.get?_update_self _ (Heap.get?_push_of_some _ h1) rfl
    have e3:((s.heap.push PySem.W.emptyDict).update e fun o=>{ o with dict:=some s.heap.objs.size }).get? s.heap.objs.size=some PySem.W.emptyDict:=by
      rw[Heap.get?_update_other _ _ (Ne.symm hed)];exact ee
    have ns:((s.heap.push PySem.W.emptyDict).update e fun o=>{ o with dict:=some s.heap.objs.size }).Ns s.heap.objs.size (fun _=>none):=⟨PySem.W.emptyDict,#[],_,e3,rfl,(fun e he=>absurd he (by simp)),fun _=>rfl⟩
    have ns1:=Heap.Ns1.of_empty ns
    have I1:=I.laid (a:=s.heap.objs.size) (o:=xdO s.heap.objs.size []) (h':=s.heap.push PySem.W.emptyDict) (t':=s.toks + 1) (fun b u q=>Heap.get?_push_of_some _ q) (Nat.le_refl _)
      (xdO_ok (fs:=[]) (Nat.zero_le _) (Heap.Ns1.of_empty (h:=s.heap.push PySem.W.emptyDict) ⟨PySem.W.emptyDict,#[],_,ee,rfl,(fun e he=>absurd he (by simp)),fun _=>rfl⟩) (fun _=>by trivial) (fun y hy=>absurd rfl hy))
    have I2:=I1.write (x:=e) (e:=e) (o:=xo e C (some s.heap.objs.size)) (h':=(s.heap.push PySem.W.emptyDict).update e fun o=>{ o with dict:=some s.heap.objs.size }) (t':=s.toks + 1)
      (by rw[upd_ne (Ne.symm hed),hb];exact trivial) (.inl rfl) (fun b u hbe q=>by rw[Heap.get?_update_other _ _ (Ne.symm hbe)];exact q) ⟨_,e2⟩ (xo_ok e2 rfl rfl rfl)
    refine wpAny_nsSet1 (s:={ s with heap:=(s.heap.push PySem.W.emptyDict).update e fun o=>{ o with dict:=some s.heap.objs.size },toks:=s.toks + 1 }) ns1 fun h' hn2 hs2=>?_
    have hw:PySem.Within (fun x=>if x=f then some u else none) [f]:=fun z hz=>by
      by_cases q:z=f
      · rw[q];exact List.mem_cons_self
      · exact absurd (if_neg q) hz
    obtain ⟨oD,esD,epD,hoD,hdD,hcD⟩:=hn2.count hw
    refine wpAny_bind (wpAny_lookBehind hoD (by rw[hdD];exact pastItsLine_dict (Nat.le_trans hcD (by rw[List.length_singleton,sizeLine_eq];decide))) ?_)
    refine wpAny_pure (h _ _ (I2.write (x:=s.heap.objs.size) (e:=s.heap.objs.size) (o:=xdO s.heap.objs.size [(f,y)]) (h':=h') (t':=s.toks + 1 + 1) ?_ (.inl rfl) (fun b u' hb' q=>(hs2.2 b hb').trans q) ⟨oD,hoD⟩ (xdO_ok (by show 1≤1000;decide) hn2 ?_ hw)) ?_ ?_ ⟨_,(by rw[upd_ne (Ne.symm hed),upd_same]),.inr hfr⟩)
    · rw[upd_ne hed,upd_same];exact trivial
    · intro g
      show RelO (List.lookup g [(f,y)]) (if g=f then some u else none)
      by_cases q:g=f
      · rw[if_pos q,q];simp [List.lookup_cons];exact ry
      · have hbq:(g == f)=false:=by simpa using q
        rw[if_neg q];simp [List.lookup_cons,hbq];trivial
    · refine .full (d:=s.heap.objs.size) (by rw[upd_ne (Ne.symm hed),upd_same]) ?_ hed
      rw[upd_same];rfl
    · intro b o' hb' hbe _
      have nb:b≠s.heap.objs.size:=ne_of_none hb' hfr
      rw[upd_ne nb,upd_ne hbe,upd_ne nb]
      exact hb'
  | @full d _ hb hd2 hne2=>
    obtain ⟨o,t,h1,h2,h3,h4⟩:=xo_obj I hb
    obtain ⟨oc,odi,oda,osl⟩:=o
    dsimp only at h2 h3 h4
    subst h2 h3 h4
    obtain ⟨⟨hz',mA,hn,hr',hw⟩,_⟩:=I.hok d _ hd2
    refine wpAny_loadPart h1 (wpAny_bind (Looks.here (s:={ s with toks:=s.toks + 1 }) LC ?_))
    rw[hd']
    refine wpAny_pure ?_
    dsimp only
    refine wpAny_bind (wpAny_pure (wpAny_bind ?_))
    refine wpAny_nsSet1 (s:={ s with toks:=s.toks + 1 }) hn fun h' hn2 hs2=>?_
    obtain ⟨oD,esD,epD,hoD,hdD,hcD⟩:=hn2.count (PySem.Within.cons f u hw)
    refine wpAny_bind (wpAny_lookBehind hoD (by rw[hdD];exact pastItsLine_dict (Nat.le_trans hcD (by rw[List.length_cons,List.length_map,sizeLine_eq];omega))) ?_)
    refine wpAny_pure (h _ _ (I.write (x:=d) (e:=d) (o:=xdO d (putF f y fs)) (h':=h') (t':=s.toks + 1 + 1) (by rw[hd2];exact trivial) (.inl rfl) (fun b u' hb' q=>(hs2.2 b hb').trans q) ⟨oD,hoD⟩ (xdO_ok ?_ hn2 ?_ ?_)) ?_ ?_ ⟨d,(by rw[upd_ne (Ne.symm hne2)];exact hb),.inl hb⟩)
    · have:=length_putF f y fs;omega
    · intro g
      show RelO ((putF f y fs).lookup g) (if g=f then some u else mA g)
      rw[lookup_putF]
      by_cases q:g=f
      · rw[if_pos q,if_pos q];exact ry
      · rw[if_neg q,if_neg q];exact hr' g
    · intro g hg
      by_cases q:g=f
      · rw[q];exact (keys_putF f y fs).1
      · refine (keys_putF f y fs).2 g (hw g fun z=>hg ?_)
        show (if g=f then some u else mA g)=none
        rw[if_neg q];exact z
    · exact .full (d:=d) (by rw[upd_ne (Ne.symm hne2)];exact hb) upd_same hne2
    · intro b o' hb' hbe hbd
      rw[upd_ne (hbd d hb)]
      exact hb'
end
end L2
set_option Elab.async false
set_option linter.all false
set_option maxRecDepth 100000
namespace L2
open PySem PySem.Spec PyProof.Rows
open PySem.W (Frag findIn specialIn typeIn mroIn clsIn InstAt Looks)
abbrev xraw (C t:Addr):Obj:={ cls:=.ref C,data:=.fields #[.ref t,.none,.none,.none,.bool false,.none] }
abbrev tupO (vs:List Value):Obj:={ cls:=.type "tuple",data:=.seq vs.toArray }
structure Xm (K:Frag) (C:Addr):Prop where
  c:Xc K C
  ob:∃ (nm q:Str) (N:Addr) (bs bm:List Value) (hdct:Bool) (sn:List Str) (sub:List Value) (ab:Bool) (col:Option Bool) (dd:Option Addr) (k0 k1 k2 k3 k5:Option Value),
    K.lookup C=some (excClassObj nm q C N bs bm hdct sn sub ab col dd k0 k1 k2 k3 k5 "ValueError.__new__")
  kp:PySem.W.keepIn K (.ref C)=true
section
variable {prog:Program} {w:World} {A:Around} {E:Value→Shared→Prop} {h:Heap} {g:Array GenState} {d:Drawn} {t:Nat} {os:OsState} {K:Frag}
variable {nm q:Str} {C N:Addr} {bs bm:List Value} {hdct:Bool} {sn:List Str} {sub:List Value} {ab:Bool} {col:Option Bool} {dd:Option Addr} {k0 k1 k2 k3 k5:Option Value}
theorem xnew_check {M:Model} {rest:List Value} {Q:Unit→Shared→Prop} (hx:xmro (.ref C :: bm)=true) (hC:h.get? C=some (excClassObj nm q C N bs bm hdct sn sub ab col dd k0 k1 k2 k3 k5 "ValueError.__new__"))
    (hq:Q () ⟨h,g,d,t,os⟩):wpAny M A (checkBuiltinCall "ValueError.__new__" ⟨.ref C :: rest,[]⟩) Q E ⟨h,g,d,t,os⟩:=by
  have Fn:=F.excBase_ValueError
  have hcB:=xmro_has (n:="ValueError") (b:=true) (by decide +kernel) hx
  have hstar:=Fn.noStar
  simp only[checkBuiltinCall,Fn.newKind,Fn.newSplit,Fn.newRow]
  repeat (first | refine wpAny_loadPart_at hC ?_ | (refine wpAny_isSubtype_exc hC ?_;rw[hcB]) | refine wpAny_staticBase_exc hC ?_ | refine wpAny_madeBy_exc hC ?_ | simp only[bne_self_eq_false,Bool.false_eq_true,if_false] | wp_step)
  exact hq
theorem xnew {R:Result→Shared→Prop} {rest:List Value} (hx:xmro (.ref C :: bm)=true) (hC:h.get? C=some (excClassObj nm q C N bs bm hdct sn sub ab col dd k0 k1 k2 k3 k5 "ValueError.__new__"))
    (hq:R (.ok (.ret (.ref (h.objs.size + 1)))) ⟨(h.push (tupO rest)).push (xraw C h.objs.size),g,d,t,os⟩) (hrest:rest.length≤sizeLine):
    codeAny (model prog w) A (.builtin "ValueError.__new__" ⟨.ref C :: rest,[]⟩) R ⟨h,g,d,t,os⟩:=by
  have Fn:=F.excBase_ValueError
  have hends:=Fn.ends
  have hcB:=xmro_has (n:="ValueError") (b:=true) (by decide +kernel) hx
  have hcA:=xmro_has (n:="AttributeError") (b:=false) (by decide +kernel) hx
  have hcN:=xmro_has (n:="NameError") (b:=false) (by decide +kernel) hx
  refine codeAny_builtinAt Fn.entry ?_
  unfold Builtin.«BaseException.__new__»
  refine PySem.wpAt_bind ?_
  show PySem.wpAt _ _ _ (stack >>= _) _ _ _
  refine PySem.wpAt_bind (PySem.wpAt_stack fun p below=>PySem.wpAt_of_wpAny ?_)
  wp_walk
  refine PySem.wpAt_of_wpAny ?_
  rw[Fn.owner]
  repeat (first | with_reducible refine wpAny_madeHere_exc Fn.canon hC ?_ | with_reducible refine wpAny_loadPart_at hC ?_ | (with_reducible refine wpAny_isSubtype_exc hC ?_;first | rw[hcB] | rw[hcA] | rw[hcN]) | wp_step)
  show R _ _
  rw[Heap.size_push]
  exact hq
theorem xcall {R:Result→Shared→Prop} {rest:List Value} {init:Value} (KX:K.In h) (hx:xmro (.ref C :: bm)=true) (hC:h.get? C=some (excClassObj nm q C N bs bm hdct sn sub ab col dd k0 k1 k2 k3 k5 "ValueError.__new__"))
    (hi:Looks (model prog w) h (typeLookup (.ref C) "__init__") (some init)) (hb:∀ self,Looks (model prog w) h (bindSpecial init self) (init,[self])) (hrest:rest.length≤sizeLine)
    (hq:codeAny (model prog w) (A.under (.builtin "type.__call__" ⟨.ref C :: rest,[]⟩)) (.call init ⟨.ref (h.objs.size + 1) :: rest,[]⟩) (PySem.W.InitBack (h.objs.size + 1) R) ⟨(h.push (tupO rest)).push (xraw C h.objs.size),g,d,t,os⟩):
    codeAny (model prog w) A (.call (.ref C) ⟨rest,[]⟩) R ⟨h,g,d,t,os⟩:=by
  have f1:=tc_lookup
  have f2:=tc_bind (.ref C)
  have hT:(⟨h,g,d,t,os⟩:Shared).TypeIs (.ref C) "type":=⟨_,hC,rfl⟩
  have Fn:=F.excBase_ValueError
  refine codeAny_of_tree ?_
  show wpAny _ _ (callAny (.ref C) _) _ _ _
  repeat (any_goals (first | assumption | with_reducible refine wpAny_loadPart_at hC ?_ | wp_step))
  refine ⟨rfl,?_⟩
  refine codeAny_call_builtin_at (Code.quiet_builtin _ (by decide +kernel)) entry_typeCall (wpAny_check_type_call_sub hC ?_)
  repeat (first | with_reducible refine wpAny_loadPart_at hC ?_ | with_reducible refine wpAny_madeBy_exc hC ?_ | wp_step)
  refine codeAny_call_builtin_code (Code.quiet_builtin _ Fn.quiet) (xnew_check hx hC ?_)
  refine xnew hx hC ?_ hrest
  show wpAny _ _ _ _ _ _
  have k:∀ b o,h.get? b=some o→((h.push (tupO rest)).push (xraw C h.objs.size)).get? b=some o:=fun b o e=>Heap.get?_push_of_some _ (Heap.get?_push_of_some _ e)
  have hC1:=k _ _ hC
  have hget:((h.push (tupO rest)).push (xraw C h.objs.size)).get? (h.objs.size + 1)=some { cls:=.ref C,data:=.fields #[.ref h.objs.size,.none,.none,.none,.bool false,.none] }:=by heap_get
  have hcC:(Value.ref C :: bm).contains (.ref C)=true:=by simp
  have i1:=hi.keeps k
  have b1:=(hb (.ref (h.objs.size + 1))).keeps k
  have t1:Looks (model prog w) ((h.push (tupO rest)).push (xraw C h.objs.size)) (typeOf (.ref (h.objs.size + 1))) (.ref C):=(Looks.ld hget).andThen .now
  unfold isInstance
  repeat (first | with_reducible refine wpAny_loadPart_at hget ?_ | (with_reducible refine wpAny_isSubtype_exc hC1 ?_;rw[hcC]) | wp_step)
  refine wpAny_isSubtype_exc hC1 ?_
  rw[hcC]
  repeat (first | with_reducible refine wpAny_loadPart_at hget ?_ | wp_step)
  show wpAny _ _ (typeLookup (.ref C) _) _ _ _
  refine i1.at (wpAny_holding (wpAny_bind (b1.at ?_)))
  refine wpAny_bind (wpAny_call ?_)
  refine codeAny_mono hq fun r s' z=>?_
  rcases r with e | (v | _ | _ | _) <;> first | exact z | exact z.elim | skip
  obtain ⟨rfl,z⟩:=z
  exact wpAny_pure (wpAny_pure z)
end
section
variable {X:Cx} {pins:List (Addr×Obj)} {σ:St} {H:Hp} {s:Shared} {C:Addr} {us:List Value} {vs:List V} {Q:VK}
theorem Inv.xmade (I:Inv X pins σ H s):Inv X pins σ (upd H (s.heap.objs.size + 1) (xo (s.heap.objs.size + 1) C none)) { s with heap:=(s.heap.push (tupO us)).push (xraw C s.heap.objs.size) }:=by
  have I1:Inv X pins σ H { s with heap:=s.heap.push (tupO us) }:=I.kept (t':=s.toks) fun b o e=>Heap.get?_push_of_some _ e
  have e2:((s.heap.push (tupO us)).push (xraw C s.heap.objs.size)).get? (s.heap.objs.size + 1)=some (xraw C s.heap.objs.size):=by
    have:=Heap.get?_push_size (s.heap.push (tupO us)) (o:=xraw C s.heap.objs.size) rfl
    rwa [Heap.size_push] at this
  exact I1.laid (a:=s.heap.objs.size + 1) (t':=s.toks) (fun b u q=>Heap.get?_push_of_some _ q) (Nat.le_of_eq (Heap.size_push _ _)) (xo_ok e2 rfl rfl rfl)
theorem xinit_run {e:Addr} {d:Option Addr} {R:Result→Shared→Prop} (I:Inv X pins σ H s) (m:Xm X.K C) (hx:H e=some (xo e C d)) (hz:us.length≤sizeLine) (A:Around)
    (h:∀ s',Inv X pins σ H s'→R (.ok (.ret .none)) s'):codeAny (model X.prog X.w) A (.call (.builtin "ValueError.__init__") ⟨.ref e :: us,[]⟩) R s:=by
  have Fn:=F.excBase_ValueError
  have c:=m.c
  obtain ⟨nm,qn,N,bs,bm,hdct,sn,sub,ab,col,dd,k0,k1,k2,k3,k5,lC⟩:=m.ob
  have hC:=I.kIn _ _ lC
  obtain ⟨o,t,h1,h2,h3,h4⟩:=xo_obj I hx
  obtain ⟨oc,od,oda,osl⟩:=o
  dsimp only at h2 h3 h4
  subst h2 h3 h4
  have L:Looks (model X.prog X.w) s.heap (isInstance (.ref e) (.type "ValueError")) true:=((Looks.ld h1).andThen .now).andThen (PySem.W.looks_mroIn I.kIn (c.base (n:="ValueError") (b:=true) (by decide +kernel)))
  obtain ⟨hp,g,dr,tk,os⟩:=s
  refine codeAny_call_builtin Fn.init.plain Fn.initEntry ?_
  have hshort:=Fn.noStar
  simp only[checkBuiltinCall,Fn.initKind,Fn.initSplit,Fn.initRow]
  refine wpAny_bind (L.at ?_)
  simp only[Bool.not_true,Bool.false_eq_true,if_false]
  have fin:wpAny (model X.prog X.w) A.in1 (Builtin.«BaseException.__init__» ⟨.ref e :: us,[]⟩) (fun fin s'=>match fin with | .done f=>R (.ok f) s' | .again c'=>c'.quiet=true∧codeAny (model X.prog X.w) A c' R s') (fun e s'=>R (.error e) s') ⟨hp,g,dr,tk,os⟩:=by
    have hlt:e < hp.objs.size:=Heap.lt_size h1
    wp_walk
    refine h _ ?_
    have I1:Inv X pins σ H { (⟨hp,g,dr,tk,os⟩:Shared) with heap:=hp.push (tupO us) }:=I.kept (t':=tk) fun b o e=>Heap.get?_push_of_some _ e
    have e2:=Heap.get?_update_self (Obj.mapFields (·.setIfInBounds 0 (Value.ref hp.objs.size))) (Heap.get?_push_of_some (h:=hp) (tupO us) h1) rfl
    have I2:=I1.write (x:=e) (e:=e) (o:=xo e C od) (h':=(hp.push (tupO us)).update e (Obj.mapFields (·.setIfInBounds 0 (Value.ref hp.objs.size)))) (t':=tk) (by rw[hx];exact trivial) (.inl rfl)
      (fun b u hb q=>by rw[Heap.get?_update_other _ _ (Ne.symm hb)];exact q) ⟨_,e2⟩ (xo_ok e2 rfl rfl rfl)
    rw[upd_id hx] at I2
    exact I2
  repeat (first | with_reducible refine wpAny_loadPart_at hC ?_ | (with_reducible refine wpAny_load hC ?_) | with_reducible refine wpAny_loadPart_at h1 ?_ | wp_step)
  first
    | (refine wpAny_onRaise ?_
       rw[show ∀ (a b:String) (n:Nat),Bind.check ⟨.positional,"*","ValueError",.self,[⟨"args",.varPos,false⟩]⟩ a b n (List.map (fun x=>x.fst) ({ pos:=Value.ref e :: us }:Args).kw)=pure () from fun a b n=>check_star_args _ _ _ _ _ _]
       exact wpAny_pure fin)
    | skip
end
end L2
set_option Elab.async false
set_option linter.all false
set_option maxRecDepth 100000
namespace L2
open PySem PySem.Spec PyProof.Rows
open PySem.W (Frag findIn specialIn typeIn mroIn clsIn InstAt Looks)
structure Xi (K:Frag) (C:Addr):Prop where
  c:Xc K C
  ha:findIn K (.ref C) "__class__"=some (some (.builtin "object.__class__"))
  hn:specialIn K (.builtin "object.__class__") "__get__"=some (some (.builtin "getset_descriptor.__get__"))
  htk:PySem.W.takesIn K (.builtin "object.__class__")=some true
section
variable {K:Frag} {x C:Addr} {ox:Obj} {od:Option Obj} {prog:Program} {w:World} {A:Around} {E:Value→Shared→Prop} {s:Shared}
theorem xclass {Q:Option Value→Shared→Prop} (i:Xi K C) (KX:K.In s.heap) (I:InstAt s.heap x ox C od) (h:Q (some (.ref C)) { s with toks:=s.toks + 1 }):wpAny (model prog w) A (getAttr? (.ref x) "__class__") Q E s:=by
  have c:=i.c
  have hf:PySem.W.findObj K C od "__class__"=some (.bind (.builtin "getset_descriptor.__get__") (.builtin "object.__class__")):=by
    obtain ⟨cd,hc,_⟩:=PySem.W.any_some c.hd
    unfold PySem.W.findObj
    rw[hc,i.ha]
    simp only[Option.bind_some,i.hn,i.htk]
  obtain ⟨hp,g,d,t,os⟩:=s
  have L0:=I.type (M:=model prog w)
  have L1:=PySem.W.looks_findIn (M:=model prog w) KX c.ga
  have L2:=PySem.W.looks_findIn (M:=model prog w) KX c.gr
  have L3:=PySem.W.looks_find (M:=model prog w) KX I hf
  have L4:=PySem.W.looks_mroIn (M:=model prog w) KX (c.base (n:="BaseException") (b:=true) (by decide +kernel))
  have hm:=c.base (n:="object") (b:=true) (by decide +kernel)
  have hx2:(Value.builtin "BaseException.__getattribute__" == Value.builtin "object.__getattribute__")=false:=by decide +kernel
  have slot:=F.excAttr_ValueError.ga
  unfold getAttr? getAttrBy?
  refine wpAny_bind (wpAny_mkText (wpAny_bind (wpAny_attempt ?_)))
  unfold getAttrBy
  refine wpAny_holding (wpAny_bind (L0.at (wpAny_bind (L1.at ?_))))
  dsimp only
  rw[hx2,Bool.and_false,if_neg Bool.false_ne_true]
  unfold getAttrByItsOwn hookBefore
  refine wpAny_bind ?_
  show wpAny _ _ (if onTheHeap (Value.ref C)=true then typeLookup (.ref C) "__getattr__" else pure none) _ _ _
  rw[if_pos (show onTheHeap (Value.ref C)=true from rfl)]
  refine L2.at (wpAny_bind (wpAny_attempt (wpAny_holding ?_)))
  unfold callGetattribute
  rw[show (false&&onTheHeap (Value.builtin "BaseException.__getattribute__"))=false from rfl,if_neg Bool.false_ne_true]
  unfold boundAndCalled
  rw[slot.bind]
  refine wpAny_bind (wpAny_pure ?_)
  show wpAny _ _ (call (.builtin "BaseException.__getattribute__") [.ref x,.str "__class__" t]) _ _ _
  refine wpAny_call (codeAny_call_builtin slot.plain entry_bga ?_)
  refine @PySem.W.check_slot (model prog w) _ _ ⟨hp,g,d,t + 1,os⟩ "BaseException.__getattribute__" "BaseException" "__getattribute__" (.ref x) [.str "__class__" t] [] _ (by decide +kernel) (by decide +kernel) (L0.andThen L4) (F.args_bexc_ga (.ref x) (.str "__class__" t)) ?_
  refine wpAny_bind (wpAny_pure (wpAny_bind (wpAny_pure (wpAny_bind (L0.at (wpAny_bind (L3.at ?_)))))))
  show wpAny _ _ (holding [.builtin "object.__class__"] (call (.builtin "getset_descriptor.__get__") [.builtin "object.__class__",.ref x,.ref C]) >>= ret) _ _ _
  refine wpAny_bind (wpAny_holding (wpAny_call (PySem.W.class_get (s:=⟨hp,g,d,t + 1,os⟩) (ox:=ox) (od:=od) KX I hm (wpAny_pure ?_))))
  exact PySem.W.handed_on rfl (wpAny_pure h)
theorem kitx_exc (i:Xi K C):PySem.W.KitX K (.ref x) (.ref C) (fun h=>InstAt h x ox C od) where
  ty:=fun _ _ _ I=>I.type
  it:=fun _ _ KX _=>by
    obtain ⟨cd,hc,_⟩:=PySem.W.any_some i.c.hd
    unfold PySem.W.clsIn at hc
    split at hc
    · rename_i ho
      intro A' Q' E' s' k q
      unfold isType loadHead
      exact wpAny_bind (wpAny_loadPart (k _ _ (KX _ _ ho)) (wpAny_pure q))
    · cases hc
  ne:=fun h tp dd its n sl KX htp=>by
    obtain ⟨cd,hc,_⟩:=PySem.W.any_some i.c.hd
    refine Bool.eq_false_iff.mpr fun q=>?_
    have e:C=tp:=Value.ref.inj (beq_iff_eq.mp q)
    subst e
    unfold PySem.W.clsIn at hc
    split at hc
    · rename_i ho
      have z:=(KX _ _ ho).symm.trans htp
      cases z
    · cases hc
  ca:=fun KX I k=>xclass i KX I k
end
inductive TyX (K:Frag) (H:Hp):V→Value→Prop where
  | pl {x:V} {t:Value} (h:TyOf K H x t):TyX K H x t
  | seqL {a:Addr} {xs:List V} (h:SqL K H a xs):TyX K H (.ref a) (.type "list")
  | seqT {a:Addr} {xs:List V} (h:SqT K H a xs):TyX K H (.ref a) (.type "tuple")
  | exc {e C:Addr} {fs:List (Str×V)} (x:XAt H e C fs) (i:Xi K C):TyX K H (.ref e) (.ref C)
def clsV:V→Option Value
  | .ref a=>some (.ref a)
  | .ty n=>some (.type n)
  | _=>none
theorem call_isinst {X:Cx}:CallR X (.builtin "isinstance") (fun xs H Q=>∃ x c t k b,xs=[x,c]∧clsV c=some k∧TyX X.K H x t∧PySem.W.kitOne X.K t k=some b∧Q (.bl b) H):=by
  rintro pins s σ H xs us Q I r ⟨x,c,t,k,b,rfl,hk,ty,e,q⟩
  obtain ⟨u,v,rfl,ru,rv⟩:=r.two
  have hv:v=k:=by
    cases c with
    | ref a=>cases hk;exact rv
    | ty n=>cases hk;exact rv
    | _=>cases hk
  subst hv
  cases ty with
  | pl ty=>exact isinst_ok I ru ty e fun tk=>⟨.bl b,H,I.tok _,rfl,q⟩
  | seqL h=>
    cases ru
    obtain ⟨its,_,⟨o,n,ho,hc,_⟩,_⟩:=I.list h
    exact PySem.W.kia_one PySem.W.kitx_list I.kIn ⟨o,ho,hc⟩ e (fun z=>nomatch z) fun tk=>⟨.bl b,H,I.tok _,rfl,q⟩
  | seqT h=>
    cases ru
    obtain ⟨its,_,⟨o,ho,hc,_⟩,_⟩:=I.tuple h
    exact PySem.W.kia_one PySem.W.kitx_tuple I.kIn ⟨o,ho,hc⟩ e (fun z=>nomatch z) fun tk=>⟨.bl b,H,I.tok _,rfl,q⟩
  | exc x i=>
    cases ru
    obtain ⟨ox,od,J,_⟩:=x.inst I
    exact PySem.W.kia_one (kitx_exc i) I.kIn J e (fun z=>nomatch z) fun tk=>⟨.bl b,H,I.tok _,rfl,q⟩
def tXFld (K:Frag) (ta:TE) (f:Str):TE:=fun σ H Q=>ta σ H fun x H1=>∃ e C fs v,x=.ref e∧XAt H1 e C fs∧Xc K C∧NoAttr K C f∧fs.lookup f=some v∧Q v H1
def sXFld (K:Frag) (ta tv:TE) (f:Str):TS:=fun D σ H=>tv σ H fun y H1=>ta σ H1 fun x H2=>∃ e C fs,x=.ref e∧XAt H2 e C fs∧Xc K C∧NoAttr K C f∧fs.length < 1000 ∧
  ∀ H',XAt H' e C (putF f y fs)→(∀ b o,H2 b=some o→b≠e→(∀ d,H2 e=some (xo e C (some d))→b≠d)→H' b=some o)→(∃ d,H' e=some (xo e C (some d))∧(H2 e=some (xo e C (some d))∨H2 d=none))→D.nx σ H'
def tXMake0 (K:Frag) (C:Addr) (t:TA):TE:=fun σ H Q=>t σ H fun vs H1=>vs.length≤1000∧∀ e,H1 e=none→Q (.ref e) (upd H1 e (xo e C none))
def tXMake (C:Addr) (sp:Sp) (E:XK) (t:TA):TE:=fun σ H Q=>t σ H fun vs H1=>vs.length≤1000∧∀ e,H1 e=none→sp (.ref e :: vs) (upd H1 e (xo e C none)) (fun v H2=>v=.non∧Q (.ref e) H2) E
section
variable {X:Cx} {o e value:Expr} {es:List Expr} {f x:Str} {p pos pos':Pos} {ta tv:TE} {t:TA} {C fI:Addr}
theorem ps_xfld (ha:PE X o ta) (hv:PE X value tv) (hs:swapsWith value (some (.Attribute o f pos')) pos.line X.env=pure false):PS X (.Assign [.Attribute o f pos'] value pos) (sXFld X.K ta tv f):=by
  intro pins s σ H D I h
  refine plainObj_wpAny_Assign_Attribute (thn (hv pins s σ H _ I h) fun u s1 ⟨y,H1,I1,ry,q⟩=>thn (ha pins s1 σ H1 _ I1 q) fun ov s2 ⟨x,H2,I2,rx,a,C,fs,ex,xa,c,n,l,q2⟩=>?_) hs
  subst ex
  obtain rfl:ov=Value.ref a:=rx
  exact xset I2 xa c n l ry fun s3 H3 I3 x3 k3 d3=>⟨σ,H3,I3,q2 H3 x3 k3 d3⟩
theorem Xm.parts {K:Frag} {C:Addr} (m:Xm K C):∃ (nm q:Str) (N:Addr) (bs bm:List Value) (hdct:Bool) (sn:List Str) (sub:List Value) (ab:Bool) (col:Option Bool) (dd:Option Addr) (k0 k1 k2 k3 k5:Option Value),
    K.lookup C=some (excClassObj nm q C N bs bm hdct sn sub ab col dd k0 k1 k2 k3 k5 "ValueError.__new__")∧xmro (.ref C :: bm)=true:=by
  obtain ⟨nm,qn,N,bs,bm,hdct,sn,sub,ab,col,dd,k0,k1,k2,k3,k5,lC⟩:=m.ob
  refine ⟨nm,qn,N,bs,bm,hdct,sn,sub,ab,col,dd,k0,k1,k2,k3,k5,lC,?_⟩
  have hm:=m.c.mr
  unfold PySem.W.clsIn at hm
  rw[lC] at hm
  exact hm
theorem run_xmake0 {pins:List (Addr×Obj)} {σ:St} {H:Hp} {s:Shared} {Q:VK} {us:List Value} (m:Xm X.K C) (hi:findIn X.K (.ref C) "__init__"=some (some (.builtin "ValueError.__init__"))) (I:Inv X pins σ H s) (hz:us.length≤1000)
    (h:∀ e,H e=none→Q (.ref e) (upd H e (xo e C none))):wpAny (model X.prog X.w) X.A (call (.ref C) us) (EP X pins σ Q) X.xe s:=by
  obtain ⟨nm,qn,N,bs,bm,hdct,sn,sub,ab,col,dd,k0,k1,k2,k3,k5,lC,hx⟩:=m.parts
  have I2:=Inv.xmade (C:=C) (us:=us) I
  have hq:=h (s.heap.objs.size + 1) (I.hok.fresh (Nat.le_succ _))
  have hz':us.length≤sizeLine:=Nat.le_trans hz (by rw[sizeLine_eq];decide)
  have KX:=I.kIn
  have hC:=KX _ _ lC
  obtain ⟨hp,g,d,t,os⟩:=s
  refine wpAny_call (xcall (K:=X.K) KX hx hC (PySem.W.looks_findIn KX hi) (fun self=>Looks.of_pure (F.excBase_ValueError.init.bind self)) hz' ?_)
  refine xinit_run I2 m upd_same hz' _ fun s' I3=>⟨rfl,?_⟩
  exact ⟨.ref _,_,I3,rfl,hq⟩
theorem run_xmake {CX:CXT} {k:Nat} {fd:FuncData} {ps:List Str} {sp:Sp} {E:XK} {pins:List (Addr×Obj)} {σ:St} {H:Hp} {s:Shared} {Q:VK} {us:List Value} {vs:List V} (m:Xm X.K C) (hi:findIn X.K (.ref C) "__init__"=some (some (.ref fI))) (hfn:PySem.W.isFn X.K (.ref fI)=true)
    (F:FnOk X.prog X.w X.K X.mg X.base CX k fI fd ps sp) (hr:Room (k + 1) X.A) (hb:Binds X.K fd ps []) (hxp:Passes CX X E) (I:Inv X pins σ H s) (r:Vals vs us) (hz:vs.length≤1000)
    (h:∀ e,H e=none→sp (.ref e :: vs) (upd H e (xo e C none)) (fun v H2=>v=.non∧Q (.ref e) H2) E):wpAny (model X.prog X.w) X.A (call (.ref C) us) (EP X pins σ Q) X.xe s:=by
  obtain ⟨nm,qn,N,bs,bm,hdct,sn,sub,ab,col,dd,k0,k1,k2,k3,k5,lC,hx⟩:=m.parts
  have I2:=Inv.xmade (C:=C) (us:=us) I
  have hq:=h (s.heap.objs.size + 1) (I.hok.fresh (Nat.le_succ _))
  have hz':us.length≤sizeLine:=by rw[←r.length];exact Nat.le_trans hz (by rw[sizeLine_eq];decide)
  have KX:=I.kIn
  have hC:=KX _ _ lC
  have r2:Vals (V.ref (s.heap.objs.size + 1) :: vs) (Value.ref (s.heap.objs.size + 1) :: us):=.cons rfl r
  have hl:((Value.ref (s.heap.objs.size + 1) :: us)++[]).length=ps.length:=by
    have e:=r2.length
    rw[F.len _ _ _ _ hq] at e
    rw[List.append_nil]
    exact e.symm
  have hb2:=hb { s with heap:=(s.heap.push (tupO us)).push (xraw C s.heap.objs.size) } (Value.ref (s.heap.objs.size + 1) :: us) I2.kIn hl
  rw[List.append_nil] at hb2
  obtain ⟨hp,g,d,t,os⟩:=s
  refine wpAny_call (xcall (K:=X.K) KX hx hC (PySem.W.looks_findIn KX hi) (fun self=>PySem.W.bind_fn KX self (beq_iff_eq.mp hfn)) hz' ?_)
  refine codeAny_mono (F.run _ X.stack _ _ ⟨Value.ref (hp.objs.size + 1) :: us,[]⟩ (Value.ref (hp.objs.size + 1) :: us) _ _ E (hr.make C us []) (I2.env0.make C us []) hb2 r2 hq) fun r s' hq'=>?_
  cases r with
  | error e=>exact hxp pins σ _ _ e s' I2 hq'
  | ok fl=>
    cases fl with
    | ret u=>
      obtain ⟨v,H',I3,rv,ev,q3⟩:=I2.after hq'
      subst ev
      exact ⟨rv,⟨V.ref (hp.objs.size + 1),H',I3,rfl,q3⟩⟩
    | next=>exact False.elim hq'
    | brk=>exact False.elim hq'
    | cont=>exact False.elim hq'
theorem pe_xmake0 (m:Xm X.K C) (hi:findIn X.K (.ref C) "__init__"=some (some (.builtin "ValueError.__init__"))) (hg:Gl X x) (hm:X.mg x=some (.ref C)) (ha:PA X (e :: es) t)
    (hdb:(x == ("__debug__":Str))=false:=by decide) (he:starEach (e :: es) X.env=(false,eval e X.env) :: starEach es X.env:=by rfl) (hpl:(backTo pos (starEach es X.env)).any (·.1)=false:=by rfl):
    PE X (.Call (.Name x p) (e :: es) [] pos) (tXMake0 X.K C t):=by
  intro pins s σ H Q I h
  refine wpAny_Call_Name_kw (ld_glob I hg hm ?_ hdb)
  refine PySem.W.callWith_K (h₀:=X.base) I.ok.mod.kin m.kp (thn (ha pos pins s σ H _ I h) fun us s1 ⟨vs,H1,I1,r,hz,q⟩=>⟨I1.kIn,?_⟩) he hpl
  exact run_xmake0 m hi I1 (by rw[List.nil_append,←r.length];exact hz) q
theorem pe_xmake {CX:CXT} {k:Nat} {fd:FuncData} {ps:List Str} {sp:Sp} {E:XK} (m:Xm X.K C) (hi:findIn X.K (.ref C) "__init__"=some (some (.ref fI))) (hfn:PySem.W.isFn X.K (.ref fI)=true)
    (F:FnOk X.prog X.w X.K X.mg X.base CX k fI fd ps sp) (hr:Room (k + 1) X.A) (hb:Binds X.K fd ps []) (hxp:Passes CX X E) (hg:Gl X x) (hm:X.mg x=some (.ref C)) (ha:PA X (e :: es) t)
    (hdb:(x == ("__debug__":Str))=false:=by decide) (he:starEach (e :: es) X.env=(false,eval e X.env) :: starEach es X.env:=by rfl) (hpl:(backTo pos (starEach es X.env)).any (·.1)=false:=by rfl):
    PE X (.Call (.Name x p) (e :: es) [] pos) (tXMake C sp E t):=by
  intro pins s σ H Q I h
  refine wpAny_Call_Name_kw (ld_glob I hg hm ?_ hdb)
  refine PySem.W.callWith_K (h₀:=X.base) I.ok.mod.kin m.kp (thn (ha pos pins s σ H _ I h) fun us s1 ⟨vs,H1,I1,r,hz,q⟩=>⟨I1.kIn,?_⟩) he hpl
  exact run_xmake m hi hfn F hr hb hxp I1 r hz q
structure ClsRead (K:Frag) (C:Addr) (f:Str) (v:Value):Prop where
  sp:specialIn K (.ref C) "__getattribute__"=some (some (.builtin "type.__getattribute__"))
  rd:PySem.W.readsIn K C (.type "type")=true
  fd:PySem.W.findCls K (.ref C) (.type "type") f=some (.val v)
  hn:PySem.W.handedIn v=true
def tXInit (K:Frag) (t:TA):TE:=fun σ H Q=>t σ H fun vs H1=>∃ e C d rest,vs=.ref e :: rest∧H1 e=some (xo e C d)∧Xm K C∧rest.length≤1000∧Q .non H1
theorem pe_xinit {L:Addr} {pl:Sem Bool} {apos:Pos} {np:Pos} (hg:Gl X x) (hm:X.mg x=some (.ref L)) (cr:ClsRead X.K L "__init__" (.builtin "ValueError.__init__")) (ha:PA X (e :: es) t)
    (hdb:(x == ("__debug__":Str))=false:=by decide) (hst:starEach (e :: es) X.env=(false,eval e X.env) :: starEach es X.env:=by rfl) (hpl:(backTo pos (starEach es X.env)).any (·.1)=false:=by rfl)
    (ht:eval (.Call (.Attribute (.Name x np) "__init__" apos) (e :: es) [] pos) X.env=(do
      let ov ←eval (.Name x np) X.env
      standAt apos.atName
      let (f,first) ←holding [ov] (getMethod ov "__init__" pl)
      callWith pos f first (backTo pos (starEach (e :: es) X.env)) (backToKw pos (keywordEach [] X.env))):=by rfl):
    PE X (.Call (.Attribute (.Name x np) "__init__" apos) (e :: es) [] pos) (tXInit X.K t):=by
  intro pins s σ H Q I h
  refine PySem.W.methodCall_KW (pl:=pl) (ld_glob I hg hm ?_ hdb) ht
  refine PySem.W.method_cls I.kIn cr.sp (PySem.W.cls_value I.kIn cr.rd cr.fd cr.hn ?_)
  refine PyProof.Rows.callWith_builtin1 (thn (ha pos pins _ σ H _ (I.tok _) h) fun us s1 ⟨vs,H1,I1,r1,ev,C,d,rest,evs,hx,m,hz,q⟩=>?_) hst hpl
  subst evs
  cases r1 with
  | cons ru rr=>
    cases ru
    refine wpAny_call (xinit_run I1 m hx (by rw[←rr.length];exact Nat.le_trans hz (by rw[sizeLine_eq];decide)) _ fun s' I3=>?_)
    exact ⟨.non,H1,I3,rfl,q⟩
end
end L2
set_option Elab.async false
set_option linter.all false
set_option maxRecDepth 100000
namespace L2
open PySem PySem.Spec PyProof.Rows
section
variable {X:Cx} {pins:List (Addr×Obj)} {σ:St} {H:Hp} {s:Shared}
theorem Inv.track {p:Addr} {o:HO} (I:Inv X pins σ H s) (hf:FpOk X pins H p) (hs:X.s₀.heap.objs.size≤p) (ok:ObjOk X.prog X.w (upd H p o) s.heap p o):Inv X pins σ (upd H p o) s:=by
  obtain ⟨f0,f1,f2,f3,f4,f5⟩:=hf
  have ne:∀ b o',X.s₀.heap.get? b=some o'→b≠p:=fun b o' e=>Nat.ne_of_lt (Nat.lt_of_lt_of_le (Heap.lt_size e) hs)
  have nh:∀ b u,H b=some u→b≠p:=fun b u e=>ne_of_none e f0
  refine ⟨I.ok,I.os,I.bare,⟨I.base.keep,I.base.slot,fun b o' e n hb=>?_,I.base.there,fun b xs e=>?_,fun b o' u e=>?_,fun b ps e=>?_⟩,I.loc,I.cell,?_,fun x c e=>?_,fun q hq=>?_,fun b u e=>?_,I.len⟩
  · rw[upd_ne (ne b o' e)];exact I.base.free b o' e n hb
  · have:=I.base.tups b xs e
    rw[upd_ne (nh b _ this)];exact this
  · have:=I.base.frzs b o' u e
    rw[upd_ne (nh b _ this)];exact this
  · obtain ⟨m,q⟩:=I.base.tbls b ps e
    exact ⟨m,by rw[upd_ne (nh b _ q)];exact q⟩
  · rw[upd_ne (Ne.symm f1)];exact I.free
  · rw[upd_ne (f4 x c e)];exact I.freeC x c e
  · obtain ⟨e,n,r⟩:=I.pin q hq
    refine ⟨e,?_,r⟩
    rw[upd_ne (f5 q hq)];exact n
  · by_cases hb:b=p
    · subst hb
      rw[upd_same] at e
      cases e
      exact ok
    · rw[upd_ne hb] at e
      refine (I.hok b u e).stay (fun _ _ _ q=>q) (fun c q=>?_) fun c xs q=>?_
      · rw[upd_ne (nh c _ q)];exact q
      · rw[upd_ne (nh c _ q)];exact q
end
def Ite (K:PySem.W.Frag) (a:Addr):It:=
  ⟨fun i H=>∃ xs x,SqL K H a xs∧xs[i]?=some x,fun i H x H'=>∃ p v,H p=none∧x=.ref p∧H'=upd H p (.tup [.int i,v])∧∀ xs,SqL K H a xs→xs[i]?=some v,fun i H=>∃ xs,SqL K H a xs∧xs.length≤i⟩
section
variable {X:Cx} {es:List Expr} {x1:Nat} {tp:Pos}
def iEnum (K:PySem.W.Frag) (ta:TA):TI:=fun σ H R=>ta σ H fun vs H1=>∃ a,vs=[.ref a]∧(∃ xs,SqL K H1 a xs)∧R (Ite K a) H1
end
end L2
set_option Elab.async false
set_option linter.all false
set_option maxRecDepth 100000
namespace L2
open PySem PySem.Spec PyProof.Rows
section
variable {H:Hp} {Q:VK} {σ:St}
theorem q_I {C:Int→Int→Prop} {g:Int→Int→V} {i j:Int}:rI C g (.int i) (.int j) H Q=(C i j∧Q (g i j) H):=
  propext ⟨fun ⟨_,_,e1,e2,h⟩=>by cases e1;cases e2;exact h,fun h=>⟨i,j,rfl,rfl,h⟩⟩
theorem q_I0 {g:Int→Int→V} {i j:Int}:rI0 g (.int i) (.int j) H Q=Q (g i j) H:=
  propext ⟨fun ⟨_,_,e1,e2,h⟩=>by cases e1;cases e2;exact h,fun h=>⟨i,j,rfl,rfl,h⟩⟩
theorem q_U {g:Int→V} {i:Int}:rU g (.int i) H Q=Q (g i) H:=
  propext ⟨fun ⟨_,e1,h⟩=>by cases e1;exact h,fun h=>⟨i,rfl,h⟩⟩
theorem q_T {C:List Nat→List Nat→Prop} {g:List Nat→List Nat→V} {a b:List Nat}:rT C g (tx a) (tx b) H Q=(C a b∧Q (g a b) H):=
  propext ⟨fun ⟨_,_,e1,e2,h⟩=>by rw[tx_inj.mp e1,tx_inj.mp e2];exact h,fun h=>⟨a,b,rfl,rfl,h⟩⟩
theorem q_b {b:Bool} {p:Bool→Prop}:(∃ k,V.bl b=V.bl k∧p k)=p b:=
  propext ⟨fun ⟨_,e,h⟩=>by cases e;exact h,fun h=>⟨b,rfl,h⟩⟩
theorem q_var {v:V} {p:V→Prop}:(∃ u,some (some v)=some (some u)∧p u)=p v:=
  propext ⟨fun ⟨_,e,h⟩=>by cases e;exact h,fun h=>⟨v,rfl,h⟩⟩
theorem q_var' {v:V} {p:V→Prop}:(∃ u,v=u∧p u)=p v:=
  propext ⟨fun ⟨_,e,h⟩=>by cases e;exact h,fun h=>⟨v,rfl,h⟩⟩
end
end L2
set_option Elab.async false
set_option linter.all false
set_option maxRecDepth 100000
namespace L2
open PySem PySem.Spec PyProof.Rows
open PySem.W (Frag findIn specialIn typeIn mroIn clsIn subIn kitOne kitCls)
def cmpOk (sc sco:Scope):Bool:=decide (sc.kind=.function)&&sc.names.all fun y=>decide (y.2≠NameKind.cell)&&(decide (y.2≠NameKind.local) || decide (sc.names.lookup y.1=some NameKind.local)) &&
  (decide (y.2≠NameKind.free) || (decide (sco.names.lookup y.1=some NameKind.cell) || decide (sco.names.lookup y.1=some NameKind.free)))
theorem cmpOk_ok {X:Cx} {sc:Scope} (h:cmpOk sc X.env.scope=true):CmpScope X sc:=by
  unfold cmpOk at h
  rw[Bool.and_eq_true,List.all_eq_true] at h
  obtain ⟨h1,h2⟩:=h
  refine ⟨of_decide_eq_true h1,fun y hy=>?_,fun y hy e=>?_,fun y hy e=>?_⟩
  · have:=h2 y hy
    simp only[Bool.and_eq_true,Bool.or_eq_true,decide_eq_true_eq] at this
    exact this.1.1
  · have:=h2 y hy
    simp only[Bool.and_eq_true,Bool.or_eq_true,decide_eq_true_eq] at this
    rcases this.1.2 with z | z
    · exact absurd e z
    · exact z
  · have:=h2 y hy
    simp only[Bool.and_eq_true,Bool.or_eq_true,decide_eq_true_eq] at this
    rcases this.2 with z | z | z
    · exact absurd e z
    · exact .inl z
    · exact .inr z
section
variable {K:Frag} {H:Hp} {C D:Addr}
structure ClsOk (K:Frag) (C:Addr) (mro:List Value):Prop where
  cd:∃ cd,clsIn K C=some cd∧cd.mro=mro
  ty:typeIn K (.ref C)=some (.type "type")
  ne:mro.isEmpty=false
def spInit (K:Frag) (C:Addr) (n:Nat) (fs:List V→List (Str×V)):Sp:=fun vs H Q _=>∃ e r,vs=.ref e :: r∧r.length=n∧H e=some (xo e C none) ∧
  ∀ H',XAt H' e C (fs r)→(∀ b o,H b=some o→b≠e→H' b=some o)→Q .non H'
theorem same_upd {a:Addr} {o:HO} (h:H a=none):Same H (upd H a o):=fun b u hb=>by rw[upd_ne (ne_of_none hb h)];exact hb
end
def Mk0 (C:Addr) (H:Hp) (Q:VK):Prop:=∀ e,H e=none→Q (.ref e) (upd H e (xo e C none))
def MkI (sp:Sp) (E:XK) (C:Addr) (vs:List V) (H:Hp) (Q:VK):Prop:=∀ e,H e=none→sp (.ref e :: vs) (upd H e (xo e C none)) (fun v H2=>v=.non∧Q (.ref e) H2) E
def NewL (xs:List V) (H:Hp) (Q:VK):Prop:=∀ p,H p=none→Q (.ref p) (upd H p (.lst xs))
def NewT (xs:List V) (H:Hp) (Q:VK):Prop:=∀ p,H p=none→Q (.ref p) (upd H p (.tup xs))
section
variable {K:Frag} {C:Addr} {sp:Sp} {E:XK} {t:TA} {σ:St} {H:Hp} {Q:VK} {vs:List V}
theorem q_mk0:tXMake0 K C t σ H Q=t σ H (fun vs H1=>vs.length≤1000∧Mk0 C H1 Q):=rfl
theorem q_mkI:tXMake C sp E t σ H Q=t σ H (fun vs H1=>vs.length≤1000∧MkI sp E C vs H1 Q):=rfl
theorem q_lst:tLst t σ H Q=t σ H (fun xs H1=>xs.length≤sizeLine∧NewL xs H1 Q):=rfl
theorem q_tup:tTup t σ H Q=t σ H (fun xs H1=>xs.length≤sizeLine∧NewT xs H1 Q):=rfl
theorem q_cat {l b:Addr}:rCat (.ref l) (.ref b) H Q=∃ xs zs,H l=some (.lst xs)∧H b=some (.lst zs)∧xs.length + zs.length≤sizeLine∧NewL (xs++zs) H Q:=
  propext ⟨fun ⟨_,_,xs,zs,e1,e2,h⟩=>by cases e1;cases e2;exact ⟨xs,zs,h⟩,fun ⟨xs,zs,h⟩=>⟨l,b,xs,zs,rfl,rfl,h⟩⟩
theorem Mk0.of (h:∀ e H',Same H H'→H e=none→XAt H' e C []→Q (.ref e) H'):Mk0 C H Q:=fun e he=>h e _ (same_upd he) he (.bare upd_same)
theorem MkI.of {n:Nat} {fs:List V→List (Str×V)} (hn:vs.length=n) (h:∀ e H',Same H H'→H e=none→XAt H' e C (fs vs)→Q (.ref e) H'):MkI (spInit K C n fs) E C vs H Q:=
  fun e he=>⟨e,vs,rfl,hn,upd_same,fun H' x k=>⟨rfl,h e H' (fun b o hb=>k b o (by rw[upd_ne (ne_of_none hb he)];exact hb) (ne_of_none hb he)) he x⟩⟩
theorem NewL.of (h:∀ p H',Same H H'→H p=none→H' p=some (.lst vs)→Q (.ref p) H'):NewL vs H Q:=fun p hp=>h p _ (same_upd hp) hp upd_same
theorem NewT.of (h:∀ p H',Same H H'→H p=none→H' p=some (.tup vs)→Q (.ref p) H'):NewT vs H Q:=fun p hp=>h p _ (same_upd hp) hp upd_same
theorem NewL.at (h:∀ p,H p=none→Q (.ref p) (upd H p (.lst vs))):NewL vs H Q:=h
theorem NewT.at (h:∀ p,H p=none→Q (.ref p) (upd H p (.tup vs))):NewT vs H Q:=h
theorem bt_str:bootBuiltins "str"=some (.type "str"):=by decide +kernel
theorem bt_int:bootBuiltins "int"=some (.type "int"):=by decide +kernel
theorem bt_list:bootBuiltins "list"=some (.type "list"):=by decide +kernel
theorem bt_set:bootBuiltins "set"=some (.type "set"):=by decide +kernel
theorem bt_len:bootBuiltins "len"=some (.builtin "len"):=by decide +kernel
theorem bt_isinstance:bootBuiltins "isinstance"=some (.builtin "isinstance"):=by decide +kernel
theorem bt_all:bootBuiltins "all"=some (.builtin "all"):=by decide +kernel
theorem bt_sorted:bootBuiltins "sorted"=some (.builtin "sorted"):=by decide +kernel
end
def Own (K:Frag) (H:Hp) (d:DT) (x:V):Prop:=DatOk K H d x∧deq d d=true∧dep d≤60
theorem Own.same {K:Frag} {H H':Hp} {d:DT} {x:V} (o:Own K H d x) (s:Same H H'):Own K H' d x:=⟨s.dat o.1,o.2⟩
theorem SqL.mk {K:Frag} {H:Hp} {a:Addr} {xs:List V} (h:H a=some (.lst xs)):SqL K H a xs:=.inl (.inl h)
theorem SqT.mk {K:Frag} {H:Hp} {a:Addr} {xs:List V} (h:H a=some (.tup xs)):SqT K H a xs:=.inl (.inl h)
theorem xo_ne {e C d:Addr}:¬ (some (xo e C none)=some (xo e C (some d))):=by
  intro z
  have z1:xo e C none=xo e C (some d):=Option.some.inj z
  unfold xo at z1
  have z2:=HO.ext.inj z1
  have hget:(⟨Array.replicate (e + 1) (xraw C 0),{}⟩:Heap).get? e=some (xraw C 0):=by
    unfold Heap.get?
    have:(Array.replicate (e + 1) (xraw C 0))[e]?=some (xraw C 0):=by simp
    dsimp only
    rw[this]
  have q:=congrFun z2 ⟨Array.replicate (e + 1) (xraw C 0),{}⟩
  have l:∃ (o:Obj) (t:Addr),(⟨Array.replicate (e + 1) (xraw C 0),{}⟩:Heap).get? e=some o∧o.cls=.ref C∧o.dict=none∧o.data=.fields #[.ref t,.none,.none,.none,.bool false,.none]:=⟨_,0,hget,rfl,rfl,rfl⟩
  have r:=q.mp l
  obtain ⟨o,t,h1,_,h3,_⟩:=r
  rw[hget] at h1
  cases h1
  cases h3
section
variable {X:Cx} {K:Frag}
theorem op_eqDK (hK:X.K=K) (hu:X.A.units + 64 < cLine):OpR X (compareOp .Eq) (rEqD K false):=by subst hK;exact op_eqD hu
theorem op_neDK (hK:X.K=K) (hu:X.A.units + 64 < cLine):OpR X (compareOp .NotEq) (rEqD K true):=by subst hK;exact op_neD hu
theorem ix_listK (hK:X.K=K):IxR X (rIxL K):=by subst hK;exact ix_list
theorem sl_listK (hK:X.K=K):SlR X (rSlL K):=by subst hK;exact sl_list
theorem op_in_seqK (hK:X.K=K):OpR X (compareOp .In) (rIn K false):=by subst hK;exact op_in_seq
theorem op_notIn_seqK (hK:X.K=K):OpR X (compareOp .NotIn) (rIn K true):=by subst hK;exact op_notIn_seq
theorem call_lenK (hK:X.K=K):CallR X (.builtin "len") (fun xs H Q=>∃ x n,xs=[x]∧LenV K x H n∧Q (.int n) H):=by subst hK;exact call_len
theorem pe_fldK {e:Expr} {f:Str} {pos:Pos} {ta:TE} (hK:X.K=K) (he:PE X e ta) (hb:attributeBase e f X.env (eval e X.env)=eval e X.env):PE X (.Attribute e f pos) (tFld K ta f):=by subst hK;exact pe_fld he hb
theorem pi_listK {tg l:Expr} {tl:TE} (hK:X.K=K) (hl:PE X l tl):PI X tg l (iList K tl):=by subst hK;exact pi_list hl
end
theorem cxK {CX:CXT} {P:Program} {w:World} {K:PySem.W.Frag} {mg:Str→Option Value} {base:Heap} {N:List Str} {qual:Str} {scope:Scope} {f:Addr} {cd:Value} {A:Around} {outer:List Env} {s:Shared} {H:Hp} {E:XK}:
    (cxOf CX P w K mg base N qual scope f cd A outer s H E).K=K:=rfl
theorem bxK {X:Cx} {sc:Scope} {N:List Str} {fp:List Addr} {s₀:Shared} {H:Hp} {pn:List (Addr×Obj)}:(bx X sc N fp s₀ H pn).K=X.K:=rfl
end L2
set_option Elab.async false
set_option linter.all false
set_option maxRecDepth 100000
namespace L2
open PySem PySem.Spec PyProof.Rows
open PySem.W (Frag)
def ForRun (J:It) (g:TG) (tb:TS) (D:Ends) (σ:St) (H:Hp):Prop:=∃ W:Nat→Nat→St→Hp→Prop,(∃ m,W 0 m σ H)∧∀ i m σ H,W i m σ H →
  (J.stop i H∧D.nx σ H)∨(J.go i H∧∃ N:St→Hp→Prop,(∀ σ' H',N σ' H'→∃ m',m' < m∧W (i + 1) m' σ' H')∧∀ x H',J.yld i H x H'→g x σ H' fun σ2 H2=>tb { D with nx:=N,ct:=N,bk:=D.nx } σ2 H2)
theorem q_for {wi:TI} {g:TG} {tb:TS} {D:Ends} {σ:St} {H:Hp}:tFor wi g tb D σ H=wi σ H fun J H1=>ForRun J g tb D σ H1:=rfl
def CompRun (J:It) (τ0:St) (g:TG) (tt:TT) (te:TE) (H1:Hp) (Q:VK):Prop:=∀ acc,H1 acc=none→∃ W:Nat→Nat→St→Hp→Prop,(∃ m,W 0 m τ0 (upd H1 acc (.lst []))) ∧
  ∀ i m τ H2,W i m τ H2→(J.stop i H2∧Q (.ref acc) H2)∨(J.go i H2∧∃ Nx:St→Hp→Prop,(∀ τ' H',Nx τ' H'→∃ m',m' < m∧W (i + 1) m' τ' H') ∧
    ∀ x H3,J.yld i H2 x H3→g x τ H3 fun τ2 H4=>tt τ2 H4 fun b H5=>if b=true then te τ2 H5 fun y H6=>∃ ys,H6 acc=some (.lst ys)∧ys.length < sizeLine∧Nx τ2 (upd H6 acc (.lst (ys++[y]))) else Nx τ2 H5)
theorem q_comp {ix:List (Option Nat)} {wi:TI} {g:TG} {tt:TT} {te:TE} {σ:St} {H:Hp} {Q:VK}:tComp ix wi g tt te σ H Q=wi σ H fun J H1=>CompRun J (pick ix σ) g tt te H1 Q:=rfl
section
variable {g:TG} {tb:TS} {D:Ends} {σ:St} {H:Hp} {K:Frag} {a:Addr} {xs:List V}
theorem ForRun.list (Pv:Nat→St→Hp→Prop) (h0:Pv 0 σ H) (hl:∀ i σ H,i≤xs.length→Pv i σ H→SqL K H a xs)
    (hs:∀ i x σ H,xs[i]?=some x→Pv i σ H→g x σ H fun σ2 H2=>tb { D with nx:=Pv (i + 1),ct:=Pv (i + 1),bk:=D.nx } σ2 H2) (hd:∀ σ H,Pv xs.length σ H→D.nx σ H):ForRun (Itl K a) g tb D σ H:=
  for_list Pv h0 hl hs hd
theorem ForRun.range {lo:Int} {n:Nat} (Pv:Nat→St→Hp→Prop) (h0:Pv 0 σ H)
    (hs:∀ i σ H,i < n→Pv i σ H→g (.int (lo + i)) σ H fun σ2 H2=>tb { D with nx:=Pv (i + 1),ct:=Pv (i + 1),bk:=D.nx } σ2 H2) (hd:∀ σ H,Pv n σ H→D.nx σ H):
    ForRun (Itr lo n) g tb D σ H:=for_range Pv h0 hs hd
theorem ForRun.text {l:List Nat} (Pv:Nat→St→Hp→Prop) (h0:Pv 0 σ H)
    (hs:∀ i c σ H,l[i]?=some c→Pv i σ H→g (tx [c]) σ H fun σ2 H2=>tb { D with nx:=Pv (i + 1),ct:=Pv (i + 1),bk:=D.nx } σ2 H2) (hd:∀ σ H,Pv l.length σ H→D.nx σ H):
    ForRun (Its l) g tb D σ H:=for_text Pv h0 hs hd
end
section
variable {tt:TT} {te:TE} {Q:VK} {τ0:St} {H:Hp}
theorem CompRun.gen {J:It} {n:Nat} (v:Nat→V) (b:Nat→Bool) (f:Nat→V) (hz:n≤1000) (hgo:∀ i H',i < n→Same H H'→J.go i H') (hst:∀ H',Same H H'→J.stop n H') (hy:∀ i H' x H3,i < n→Same H H'→J.yld i H' x H3→H3=H'∧x=v i)
    (ht:∀ i H' Q',i < n→Same H H'→(∀ H'',Same H' H''→Q' (b i) H'')→tt (τ0.set 0 (some (v i))) H' Q')
    (he:∀ i H' Q',i < n→b i=true→Same H H'→(∀ H'',Same H' H''→Q' (f i) H'')→te (τ0.set 0 (some (v i))) H' Q')
    (hQ:∀ p H',Same H H'→H p=none→H' p=some (.lst (((List.range n).filter b).map f))→Q (.ref p) H'):CompRun J τ0 (gName 0) tt te H Q:=by
  intro acc ha
  refine ⟨fun i m τ H2=>i≤n∧m=n - i∧(∀ w:Option V,τ.set 0 w=τ0.set 0 w)∧Same H H2∧H2 acc=some (.lst (((List.range i).filter b).map f)),⟨n,Nat.zero_le _,rfl,fun _=>rfl,same_upd ha,upd_same⟩,?_⟩
  rintro i m τ H2 ⟨hi,rfl,hτ,hs,hacc⟩
  by_cases hlt:i < n
  · refine .inr ⟨hgo i H2 hlt hs,fun τ' H'=>(∀ w:Option V,τ'.set 0 w=τ0.set 0 w)∧Same H H'∧H' acc=some (.lst (((List.range (i + 1)).filter b).map f)),fun τ' H' q=>⟨n - (i + 1),by omega,hlt,rfl,q⟩,fun x H3 y=>?_⟩
    obtain ⟨rfl,rfl⟩:=hy i H2 x H3 hlt hs y
    show tt (τ.set 0 (some (v i))) _ _
    rw[hτ]
    have hτ':∀ w:Option V,(τ0.set 0 (some (v i))).set 0 w=τ0.set 0 w:=fun w=>by rw[List.set_set]
    refine ht i _ _ hlt hs fun H4 s4=>?_
    cases hb:b i with
    | false=>
      rw[if_neg Bool.false_ne_true]
      refine ⟨hτ',hs.trans s4,?_⟩
      rw[s4 _ _ hacc,List.range_succ,List.filter_append]
      simp [hb]
    | true=>
      rw[if_pos rfl]
      refine he i _ _ hlt hb (hs.trans s4) fun H5 s5=>?_
      refine ⟨_,s5 _ _ (s4 _ _ hacc),?_,hτ',?_,?_⟩
      · rw[List.length_map]
        have:=List.length_filter_le b (List.range i)
        rw[List.length_range] at this
        exact small1000 (by omega)
      · intro c o hc
        have:c≠acc:=ne_of_none hc ha
        rw[upd_ne this]
        exact s5 _ _ (s4 _ _ (hs _ _ hc))
      · rw[upd_same,List.range_succ,List.filter_append]
        simp [hb]
  · have e:i=n:=by omega
    subst e
    exact .inl ⟨hst H2 hs,hQ acc H2 hs ha hacc⟩
theorem CompRun.range {lo:Int} {n:Nat} (b:Nat→Bool) (f:Nat→V) (hz:n≤1000)
    (ht:∀ (i:Nat) H' Q',i < n→Same H H'→(∀ H'',Same H' H''→Q' (b i) H'')→tt (τ0.set 0 (some (.int (lo + i)))) H' Q')
    (he:∀ (i:Nat) H' Q',i < n→b i=true→Same H H'→(∀ H'',Same H' H''→Q' (f i) H'')→te (τ0.set 0 (some (.int (lo + i)))) H' Q')
    (hQ:∀ p H',Same H H'→H p=none→H' p=some (.lst (((List.range n).filter b).map f))→Q (.ref p) H'):CompRun (Itr lo n) τ0 (gName 0) tt te H Q:=
  .gen (fun i=>.int (lo + i)) b f hz (fun i _ h _=>h) (fun _ _=>Nat.le_refl _) (fun i H' x H3 _ _ y=>y) ht he hQ
theorem filter_all {n:Nat} {f:Nat→V}:((List.range n).filter fun _=>true).map f=(List.range n).map f:=by rw[List.filter_eq_self.mpr (fun _ _=>rfl)]
theorem CompRun.rangeA {lo:Int} {n:Nat} (f:Nat→V) (hz:n≤1000)
    (he:∀ (i:Nat) H' Q',i < n→Same H H'→(∀ H'',Same H' H''→Q' (f i) H'')→te (τ0.set 0 (some (.int (lo + i)))) H' Q')
    (hQ:∀ p H',Same H H'→H p=none→H' p=some (.lst ((List.range n).map f))→Q (.ref p) H'):CompRun (Itr lo n) τ0 (gName 0) tAll te H Q:=
  .range (fun _=>true) f hz (fun i H' Q' _ _ q=>q H' (Same.refl _)) (fun i H' Q' hi _=>he i H' Q' hi) fun p H' s n e=>hQ p H' s n (by rw[e,filter_all])
theorem CompRun.text {l:List Nat} (b:Nat→Bool) (f:Nat→V) (hz:l.length≤1000)
    (ht:∀ i H' Q' (h:i < l.length),Same H H'→(∀ H'',Same H' H''→Q' (b i) H'')→tt (τ0.set 0 (some (tx [l.getD i 0]))) H' Q')
    (he:∀ i H' Q' (h:i < l.length),b i=true→Same H H'→(∀ H'',Same H' H''→Q' (f i) H'')→te (τ0.set 0 (some (tx [l.getD i 0]))) H' Q')
    (hQ:∀ p H',Same H H'→H p=none→H' p=some (.lst (((List.range l.length).filter b).map f))→Q (.ref p) H'):CompRun (Its l) τ0 (gName 0) tt te H Q:=
  .gen (fun i=>tx [l.getD i 0]) b f hz (fun i _ h _=>h) (fun _ _=>Nat.le_refl _) (fun i H' x H3 _ _ y=>by
    obtain ⟨e,c,hc,rfl⟩:=y
    refine ⟨e,?_⟩
    rw[List.getD_eq_getElem?_getD,hc];rfl) ht he hQ
theorem CompRun.list {K:Frag} {a:Addr} {xs:List V} (b:Nat→Bool) (f:Nat→V) (hz:xs.length≤1000) (hx:SqL K H a xs)
    (ht:∀ i H' Q' (h:i < xs.length),Same H H'→(∀ H'',Same H' H''→Q' (b i) H'')→tt (τ0.set 0 (some (xs.getD i .non))) H' Q')
    (he:∀ i H' Q' (h:i < xs.length),b i=true→Same H H'→(∀ H'',Same H' H''→Q' (f i) H'')→te (τ0.set 0 (some (xs.getD i .non))) H' Q')
    (hQ:∀ p H',Same H H'→H p=none→H' p=some (.lst (((List.range xs.length).filter b).map f))→Q (.ref p) H'):CompRun (Itl K a) τ0 (gName 0) tt te H Q:=
  .gen (fun i=>xs.getD i .non) b f hz (fun i H' h s=>⟨xs,xs[i],s.seq hx,by simp [h]⟩) (fun H' s=>⟨xs,s.seq hx,Nat.le_refl _⟩) (fun i H' x H3 h s y=>by
    obtain ⟨e,y⟩:=y
    refine ⟨e,?_⟩
    rw[List.getD_eq_getElem?_getD,y xs (s.seq hx)];rfl) ht he hQ
end
theorem deqs_self:∀ {vs:List V},vs.all flatV=true→deqs (vs.map DT.f) (vs.map DT.f)=true
  | [],_=>by unfold deqs;rfl
  | v :: vs,h=>by
    rw[List.all_cons,Bool.and_eq_true] at h
    rw[List.map_cons]
    unfold deqs
    rw[deqs_self h.2]
    unfold deq
    rw[eqV_self h.1]
    rfl
theorem ownL {K:Frag} {H:Hp} {a:Addr} {vs:List V} (h:SqL K H a vs) (hf:vs.all flatV=true):Own K H (.l (vs.map DT.f)) (.ref a):=⟨datL h hf,by unfold deq;exact deqs_self hf,by unfold dep;rw[deps_flat];decide⟩
end L2
set_option Elab.async false
set_option linter.all false
set_option maxRecDepth 100000
namespace L2
open PySem PySem.Spec PyProof.Rows
theorem tb_or {t:SetTable} {n:Nat}:(t.orStandIn n).led=t.led∧((t.orStandIn n).plain=true→t.plain=true):=by
  unfold SetTable.orStandIn
  split
  · exact ⟨rfl,id⟩
  · exact ⟨rfl,fun h=>by cases h⟩
theorem tb_lay {t:SetTable} {es:Array (Int×Value)} {h:Int} {x:Value}:(layNew t es h x).2.1.led=t.led∧((layNew t es h x).2.1.plain=true→t.plain=true):=by
  unfold layNew
  split
  · rename_i slot wd _
    exact tb_or (t:=(t.put slot).1)
  · exact ⟨rfl,fun h=>by cases h⟩
theorem tb_laid {mask finger moves:Nat} {led plain:Bool} {hs:Array Int} {t':SetTable} {order:Array Nat} (e:SetTable.laid mask finger moves led plain hs=some (t',order)):t'.led=led∧t'.plain=plain:=by
  unfold SetTable.laid at e
  cases hq:SetTable.layClean mask hs with
  | none=>rw[hq] at e;cases e
  | some ow=>
    rw[hq] at e
    have e':=Option.some.inj e
    obtain ⟨z,_⟩:=Prod.mk.inj e'
    subst z
    exact ⟨rfl,rfl⟩
theorem tb_relay {t:SetTable} {es:Array (Int×Value)} {n:Nat}:(relayAll t es n).2.1.led=t.led∧((relayAll t es n).2.1.plain=true→t.plain=true):=by
  unfold relayAll
  split
  · rename_i t' order q
    obtain ⟨h1,h2⟩:=tb_laid q
    dsimp only
    split
    · exact ⟨h1,fun h=>by rw[←h2];exact h⟩
    · exact ⟨rfl,fun h=>by cases h⟩
  · exact ⟨rfl,fun h=>by cases h⟩
def TxSet (P:Program) (w:World) (h:Heap) (a:Addr) (ls:List (List Nat)) (led:Bool):Prop:=
  ∃ (o:Obj) (es:Array (Int×Value)) (ep:Nat) (t:SetTable) (ms:List (List Nat)),h.get? a=some o∧o.ExactSet∧o.data=.set es ep t∧ElemsOf (mixKind P w) es.toList∧t.fits es.size=true ∧
    t.led=led∧(t.plain=true→es.size=0)∧ms.Perm ls∧Vals (ms.map tx) (es.toList.map (·.2))∧es.size < scanBound
theorem TxSet.keep {P:Program} {w:World} {h h':Heap} {a:Addr} {ls:List (List Nat)} {led:Bool} (x:TxSet P w h a ls led) (k:∀ o,h.get? a=some o→h'.get? a=some o):TxSet P w h' a ls led:=by
  obtain ⟨o,es,ep,t,ms,h1,r⟩:=x
  exact ⟨o,es,ep,t,ms,k o h1,r⟩
theorem TxSet.typ {P:Program} {w:World} {s:Shared} {a:Addr} {ls:List (List Nat)} {led:Bool} (x:TxSet P w s.heap a ls led):s.TypeIs (.ref a) "set":=by
  obtain ⟨o,es,ep,t,ms,h1,h2,_⟩:=x
  exact ⟨o,h1,h2.1⟩
def addT (ls:List (List Nat)) (l:List Nat):List (List Nat):=if l∈ls then ls else ls++[l]
theorem is_tx {l:List Nat} {v:V} {u:Value} (r:RelV v u) (hv:∃ m,v=tx m):keyIs (Sum.inr (⟨l.toArray⟩:Str):Key) u=decide (v=tx l):=by
  obtain ⟨m,rfl⟩:=hv
  obtain ⟨t,rfl⟩:=r
  rw[dec_tx]
  simp only[keyIs,Value.isStrOf]
  by_cases h:m=l
  · subst h;simp
  · have:¬ (⟨m.toArray⟩:Str)=⟨l.toArray⟩:=fun e=>h (tx_inj.mp (congrArg V.str e))
    rw[decide_eq_false h]
    simp [this]
theorem vals_mem {l:List Nat}:∀ {ms:List (List Nat)} {es:List (Int×Value)},Vals (ms.map tx) (es.map (·.2))→((∃ e∈es,keyIs (Sum.inr (⟨l.toArray⟩:Str):Key) e.2=true)↔l∈ms)
  | [],[],_=>by simp
  | [],_ :: _,r=>by cases r
  | _ :: _,[],r=>by cases r
  | m :: ms,e :: es,r=>by
    cases r with
    | cons r1 r2=>
      have ih:=vals_mem (l:=l) r2
      have q:=is_tx (l:=l) r1 ⟨m,rfl⟩
      rw[dec_tx] at q
      constructor
      · rintro ⟨x,hx,hk⟩
        rcases List.mem_cons.mp hx with z | z
        · subst z
          rw[q] at hk
          exact List.mem_cons.mpr (.inl (of_decide_eq_true hk).symm)
        · exact List.mem_cons.mpr (.inr (ih.mp ⟨x,z,hk⟩))
      · intro h
        rcases List.mem_cons.mp h with z | z
        · exact ⟨e,List.mem_cons_self,by rw[q];exact decide_eq_true z.symm⟩
        · obtain ⟨x,hx,hk⟩:=ih.mpr z
          exact ⟨x,List.mem_cons_of_mem _ hx,hk⟩
theorem vals_perm {us us':List Value} (p:us'.Perm us):∀ {ms:List (List Nat)},Vals (ms.map tx) us→∃ ms':List (List Nat),ms'.Perm ms∧Vals (ms'.map tx) us':=by
  induction p with
  | nil=>intro ms r;exact ⟨ms,.refl _,r⟩
  | cons x _ ih=>
    intro ms r
    cases ms with
    | nil=>cases r
    | cons m ms=>
      cases r with
      | cons r1 r2=>
        obtain ⟨ms',p',r'⟩:=ih r2
        exact ⟨m :: ms',p'.cons _,.cons r1 r'⟩
  | swap x y l=>
    intro ms r
    match ms,r with
    | m1 :: m2 :: ms,.cons r1 (.cons r2 r3)=>exact ⟨m2 :: m1 :: ms,.swap _ _ _,.cons r2 (.cons r1 r3)⟩
  | trans _ _ ih1 ih2=>
    intro ms r
    obtain ⟨m1,p1,r1⟩:=ih2 r
    obtain ⟨m2,p2,r2⟩:=ih1 r1
    exact ⟨m2,p2.trans p1,r2⟩
section
variable {prog:Program} {w:World} {A:Around} {E:Value→Shared→Prop} {s:Shared}
theorem set_tail {g:Bool→Sem Unit} (hg:∀ (b:Bool) (s₁:Shared) (Q':Unit→Shared→Prop),Q' () s₁→wpAny (model prog w) A (g b) Q' E s₁) {a:Addr} {o:Obj} {es:Array (Int×Value)} {ep:Nat} {t:SetTable}
    (ho:s.heap.get? a=some o) (hd:o.data=.set es ep t) {e1:Array (Int×Value)} {t2:SetTable} (hb:e1.size < scanBound) (hf:t2.fits e1.size=true) {wd:Bool} {R:Option Bool→Shared→Prop}
    (h:∀ h' e2 t3 ep',Heap.SameBut a s.heap h'→h'.get? a=some { o with data:=.set e2 ep' t3 }→e2.toList.Perm e1.toList→t3.fits e2.size=true→t3.led=t2.led→(t3.plain=true→t2.plain=true)→R (some true) { s with heap:=h' }):
    wpAny (model prog w) A (do
      storeSet a e1 t2
      if (!wd&&t2.tooFull)=true then do
        g (relayAll t2 e1 (SetTable.grown e1.size)).2.2;storeSet a (relayAll t2 e1 (SetTable.grown e1.size)).1 (relayAll t2 e1 (SetTable.grown e1.size)).2.1;pure (some true)
      else pure (some true)) R E s:=by
  have put:∀ {h:Heap} {ob:Obj} {xs ys:Array (Int×Value)} {n:Nat} {t t':SetTable},h.get? a=some ob→ob.data=.set xs n t→(h.update a (Obj.putSet ys t')).get? a=some { ob with data:=.set ys (n + 1) t' }:=fun {h ob xs ys n t t'} h1 h2=>by
    have q:=Heap.get?_update_self (Obj.putSet ys t') h1 (by rw[putSet_of ys t' h2];rfl)
    rwa [putSet_of ys t' h2] at q
  have hs1:=Heap.SameBut.update s.heap a (Obj.putSet e1 t2)
  have g1:=put (ys:=e1) (t':=t2) ho hd
  refine wpAny_bind (wpAny_storeSet_of ho hd ?_ (fits_of_scanBound hb))
  split
  · have p:=relayAll_perm t2 e1 (SetTable.grown e1.size)
    have f:=relayAll_fits t2 e1 (SetTable.grown e1.size)
    have tm:=tb_relay (t:=t2) (es:=e1) (n:=SetTable.grown e1.size)
    have z:(relayAll t2 e1 (SetTable.grown e1.size)).1.size=e1.size:=by rw[←Array.length_toList,p.length_eq,Array.length_toList]
    refine wpAny_bind (hg _ _ _ (wpAny_bind (wpAny_storeSet_of g1 rfl (wpAny_pure ?_) (fits_of_scanBound (by rw[z];exact hb)))))
    exact h _ _ _ _ (hs1.trans (Heap.SameBut.update _ a _)) (put (ob:={ o with data:=.set e1 (ep + 1) t2 }) g1 rfl) p f tm.1 tm.2
  · exact wpAny_pure (h _ _ _ _ hs1 g1 (.refl _) hf rfl id)
theorem set_add {a:Addr} {ls:List (List Nat)} {led:Bool} {l:List Nat} {tk:Tok} {Q:Bool→Shared→Prop} (hS:TxSet prog w s.heap a ls led) (hn:ls.length + 1 < scanBound)
    (h:∀ h' b,Heap.SameBut a s.heap h'→TxSet prog w h' a (addT ls l) led→Q b { s with heap:=h' }):
    wpAny (model prog w) A (setAddHashed a (.str ⟨l.toArray⟩ tk) (keyH w (Sum.inr ⟨l.toArray⟩))) Q E s:=by
  obtain ⟨o,es,ep,t,ms,ho,hex,hd,hel,hf,hled,hpl,hp,hv,hb⟩:=hS
  have hkey:(mixKind prog w).is (Sum.inr (⟨l.toArray⟩:Str)) (.str ⟨l.toArray⟩ tk)=true:=by
    exact mixKind_str prog w _ _
  have hsc:(Value.str ⟨l.toArray⟩ tk).scannable=true:=rfl
  have hlen:es.size=ls.length:=by
    have q:=hv.length
    rw[List.length_map,List.length_map] at q
    rw[←Array.length_toList,←q,hp.length_eq]
  have mem:=vals_mem (l:=l) hv
  have hl:l∈ms↔l∈ls:=hp.mem_iff
  unfold setAddHashed setAddHashedIn
  refine wpAny_holding (wpAny_bind (wpAny_setState_of ho hd hf ?_))
  dsimp only
  rw[byScan_of hsc hb hel,if_pos rfl]
  unfold setAddByScan
  refine wpAny_bind (wpAny_bind (wpAny_rule (wpAny_bind (wpAny_setScan_of (knd:=mixKind prog w) (k:=Sum.inr (⟨l.toArray⟩:Str)) hkey ho hd hf hel ?_))))
  cases hr:List.findIdx? (fun e=>(mixKind prog w).is (Sum.inr (⟨l.toArray⟩:Str)) e.2) es.toList with
  | some j=>
    dsimp only
    obtain ⟨hj,hpj,_⟩:=List.findIdx?_eq_some_iff_getElem.mp hr
    have hin:l∈ls:=hl.mp (mem.mp ⟨es.toList[j],List.getElem_mem hj,hpj⟩)
    refine wpAny_pure (wpAny_pure ?_)
    have q:=h s.heap false (Heap.SameBut.refl a s.heap) (by
      unfold addT
      rw[if_pos hin]
      exact ⟨o,es,ep,t,ms,ho,hex,hd,hel,hf,hled,hpl,hp,hv,hb⟩)
    exact q
  | none=>
    dsimp only
    have hnin:l∉ls:=fun z=>by
      obtain ⟨e,he,hk⟩:=mem.mpr (hl.mpr z)
      have q:=List.findIdx?_eq_none_iff.mp hr e he
      rw[show (mixKind prog w).is (Sum.inr (⟨l.toArray⟩:Str)) e.2=true from hk] at q
      cases q
    have lp:=layNew_perm t es (keyH w (Sum.inr ⟨l.toArray⟩)) (.str ⟨l.toArray⟩ tk)
    have lf:=layNew_fits t es (keyH w (Sum.inr ⟨l.toArray⟩)) (.str ⟨l.toArray⟩ tk)
    have lt:=tb_lay (t:=t) (es:=es) (h:=keyH w (Sum.inr ⟨l.toArray⟩)) (x:=.str ⟨l.toArray⟩ tk)
    show wpAny _ A (match layNew t es (keyH w (Sum.inr ⟨l.toArray⟩)) (.str ⟨l.toArray⟩ tk) with | (es,t,wasDummy,gave)=>_) _ _ _
    generalize hL:layNew t es (keyH w (Sum.inr ⟨l.toArray⟩)) (.str ⟨l.toArray⟩ tk)=L at lp lf lt ⊢
    obtain ⟨e1,t1,wd,gave⟩:=L
    dsimp only at lp lf lt ⊢
    rw[Array.toList_push] at lp
    have sz1:e1.size=ls.length + 1:=by rw[←Array.length_toList,lp.length_eq,List.length_append,Array.length_toList,hlen];rfl
    have gw:∀ (b:Bool) (s₁:Shared) (Q':Unit→Shared→Prop),Q' () s₁→wpAny (model prog w) A (match b with | true=>rule "set.scan.the-table-gave-way" | false=>pure ()) Q' E s₁:=
      fun b s₁ Q' hq=>by cases b <;> first | exact wpAny_pure hq | exact wpAny_rule hq
    refine wpAny_bind (gw _ _ _ ?_)
    have fin:∀ (t2:SetTable),t2.fits e1.size=true→t2.led=t1.led→t2.plain=false→∀ h' e2 t3 ep',Heap.SameBut a s.heap h'→h'.get? a=some { o with data:=.set e2 ep' t3 }→e2.toList.Perm e1.toList→t3.fits e2.size=true→t3.led=t2.led→(t3.plain=true→t2.plain=true)→Q true { s with heap:=h' }:=by
      intro t2 f2 l2 p2 h' e2 t3 ep' sb hg pm f3 l3 p3
      refine h h' true sb ?_
      have pall:=pm.trans lp
      obtain ⟨ms',pm',hv'⟩:=vals_perm (us:=(es.toList++[(keyH w (Sum.inr ⟨l.toArray⟩),Value.str ⟨l.toArray⟩ tk)]).map (·.2)) (us':=e2.toList.map (·.2)) (pall.map _) (ms:=ms++[l]) (by
        rw[List.map_append,List.map_append]
        exact hv.append (.cons ⟨tk,rfl⟩ .nil))
      unfold addT
      rw[if_neg hnin]
      refine ⟨_,e2,ep',t3,ms',hg,hex,rfl,((hel.push (knd:=mixKind prog w) hkey hsc).perm pall),f3,l3.trans (l2.trans (lt.1.trans hled)),fun z=>by rw[p2] at p3;exact absurd (p3 z) Bool.false_ne_true,pm'.trans (hp.append_right [l]),hv',?_⟩
      rw[←Array.length_toList,pm.length_eq,Array.length_toList,sz1]
      exact hn
    split
    · refine wpAny_bind ?_
      rw[hashByValue_scannable 8 hsc]
      refine wpAny_pure ?_
      refine set_tail gw ho hd (by rw[sz1];exact hn) ?_ fun h' e2 t3 ep' q1 q2 q3 q4 q5 q6=>?_
      · exact SetTable.fits_plain_off lf
      · exact wpAny_pure (fin _ (SetTable.fits_plain_off lf) rfl rfl h' e2 t3 ep' q1 q2 q3 q4 q5 q6)
    · rename_i hnp
      have hnp':t1.plain=false:=by simpa using hnp
      refine wpAny_bind (wpAny_pure ?_)
      rw[if_pos rfl]
      refine set_tail gw ho hd (by rw[sz1];exact hn) lf fun h' e2 t3 ep' q1 q2 q3 q4 q5 q6=>wpAny_pure (fin _ lf rfl hnp' h' e2 t3 ep' q1 q2 q3 q4 q5 q6)
end
end L2
set_option Elab.async false
set_option linter.all false
set_option maxRecDepth 100000
namespace L2
open PySem PySem.Spec PyProof.Rows
def dd (val:Nat→List Nat) (i:Nat):List (List Nat):=((List.range i).map val).foldl addT []
theorem dd_succ {val:Nat→List Nat} {i:Nat}:dd val (i + 1)=addT (dd val i) (val i):=by
  unfold dd
  rw[List.range_succ,List.map_append,List.foldl_append]
  rfl
theorem addT_len {ls:List (List Nat)} {l:List Nat}:(addT ls l).length≤ls.length + 1:=by
  unfold addT
  split
  · omega
  · simp
theorem dd_len {val:Nat→List Nat}:∀ i,(dd val i).length≤i
  | 0=>Nat.le_refl _
  | i + 1=>by
    rw[dd_succ]
    have h1:=dd_len (val:=val) i
    have h2:=addT_len (ls:=dd val i) (l:=val i)
    omega
theorem dd_nodup {val:Nat→List Nat}:∀ i,(dd val i).Nodup
  | 0=>by simp [dd]
  | i + 1=>by
    rw[dd_succ]
    unfold addT
    split
    · exact dd_nodup i
    · rename_i h
      rw[List.nodup_append]
      refine ⟨dd_nodup i,by simp,?_⟩
      intro a ha b hb e
      have:b=val i:=by simpa using hb
      subst e this
      exact h ha
section
variable {prog:Program} {w:World} {A:Around} {R:Result→Shared→Prop} {I:Addr} {fp wr:List Addr} {G:Array GenState→Array GenState→Prop} {n:Nat} {Pi:Nat→Value→Prop} {St:Nat→Shared→Prop}
theorem set_loop (W:WalksS prog w A.in1 I fp wr G n Pi St) (S:Addr) (hSf:S∉fp) (val:Nat→List Nat) (hval:∀ i v,Pi i v→∃ t,v=.str ⟨(val i).toArray⟩ t) (hb:n + 1 < scanBound) {led:Bool}:
    ∀ (k i:Nat) (s:Shared),n - i=k→i≤n→St i s→TxSet prog w s.heap S (dd val i) led→(∀ s',Moved (S :: wr) G s s'→TxSet prog w s'.heap S (dd val n) led→R (.ok (.ret .none)) s') →
      codeAny (model prog w) A (.builtin "set.update.loop" ⟨[.ref S,.ref I],[]⟩) R s:=by
  have nw:S∉wr:=fun h=>hSf (W.sub _ h)
  have up:∀ b∈wr,b∈S :: wr:=fun b hb=>List.mem_cons_of_mem _ hb
  intro k
  induction k with
  | zero=>
    intro i s hk hi st hS hR
    have e:i=n:=by omega
    subst e
    refine codeAny_builtin F.entry_set_update_loop ?_
    rw[Around.under_plainId F.plain_set_update_loop _]
    show wpAny _ A.in1 (pyNext (.ref I) >>= fun r=>_) _ _ s
    refine wpAny_bind (W.done s _ _ st fun s' hm=>?_)
    exact wpAny_pure (hR s' (hm.mono up) (hS.keep fun o e=>hm.heap S o nw e))
  | succ k ih=>
    intro i s hk hi st hS hR
    have hlt:i < n:=by omega
    refine codeAny_builtin F.entry_set_update_loop ?_
    rw[Around.under_plainId F.plain_set_update_loop _]
    show wpAny _ A.in1 (pyNext (.ref I) >>= fun r=>_) _ _ s
    refine wpAny_bind (W.item i s _ _ hlt st fun v s1 hP st1 hm=>?_)
    obtain ⟨tk,rfl⟩:=hval i v hP
    have hS1:TxSet prog w s1.heap S (dd val i) led:=hS.keep fun o e=>hm.heap S o nw e
    show wpAny _ A.in1 (holding [Value.str ⟨(val i).toArray⟩ tk] (setAdd S (.str ⟨(val i).toArray⟩ tk)) >>= fun _=>_) _ _ s1
    refine wpAny_bind (wpAny_holding ?_)
    unfold setAdd
    refine wpAny_holding (wpAny_bind (wpAny_pyHash_str ?_))
    refine set_add (s:={ s1 with toks:=s1.toks + 1 }) (l:=val i) hS1 (by have:=dd_len (val:=val) i;omega) fun h' b sb hS2=>?_
    rw[←dd_succ] at hS2
    refine wpAny_pure ⟨plainId_quiet F.plain_set_update_loop _,ih (i + 1) _ (by omega) hlt (W.frame _ s1 _ _ st1 (Nat.le_succ _) fun b hb o e=>(sb.2 b fun z=>hSf (z▸hb)).trans e) hS2 fun s2 hm2 hS3=>?_⟩
    exact hR s2 (Moved.trans W.gtrans ((hm.mono up).then_heap (Nat.le_succ _) fun b o hb e=>(sb.2 b fun z=>hb (z▸List.mem_cons_self)).trans e) hm2) hS3
end
theorem vals_at {i:Nat} {u:Value}:∀ {vs:List V} {us:List Value} ,Vals vs us→us[i]?=some u→∃ v,vs[i]?=some v∧RelV v u:=by
  induction i with
  | zero=>
    intro vs us r e
    cases r with
    | nil=>cases e
    | cons r1 _=>cases e;exact ⟨_,rfl,r1⟩
  | succ i ih=>
    intro vs us r e
    cases r with
    | nil=>cases e
    | cons _ r2=>exact ih r2 e
structure Walked (prog:Program) (w:World) (x:Value) (s:Shared) (T:String) (n:Nat) (val:Nat→List Nat):Prop where
  ty:∀ s1:Shared,(∀ b o,s.heap.get? b=some o→s1.heap.get? b=some o)→s1.TypeIs x T
  go:∀ (A:Around) (s1:Shared) (Q:Value→Shared→Prop) (E:Value→Shared→Prop),A.handled=none→(∀ b o,s.heap.get? b=some o→s1.heap.get? b=some o) →
    (∀ (h2:Heap) (I:Addr) (fp wr:List Addr) (Pi:Nat→Value→Prop) (St:Nat→Heap→Prop),(∀ A':Around,A'.handled=none→Walks prog w A' I fp wr n Pi St)→St 0 h2 →
      (∀ b∈fp,b < s.heap.objs.size∨s1.heap.objs.size≤b)→(∀ b∈wr,s1.heap.objs.size≤b)→(∀ b o,s1.heap.get? b=some o→h2.get? b=some o)→(∀ i v,Pi i v→∃ t,v=.str ⟨(val i).toArray⟩ t)→Q (.ref I) { s1 with heap:=h2 }) →
    wpAny (model prog w) A (pyIter x) Q E s1
theorem walked_list {prog:Program} {w:World} {s:Shared} {l:Addr} {us:List Value} {ls:List (List Nat)} (hl:s.heap.IsList l us.toArray) (r:Vals (ls.map tx) us):Walked prog w (.ref l) s "list" ls.length (fun i=>ls.getD i []) where
  ty:=fun s1 k=>by
    obtain ⟨o,ho,hc,_⟩:=hl
    exact ⟨o,k _ _ ho,hc⟩
  go:=fun A s1 Q E hh k h=>by
    obtain ⟨o,ho,hc,hr⟩:=id hl
    have hl1:s1.heap.IsList l us.toArray:=⟨o,k _ _ ho,hc,hr⟩
    have hlt:=Heap.lt_size ho
    have hlt1:=Heap.lt_size (k _ _ ho)
    have hlen:us.toArray.size=ls.length:=by rw[List.size_toArray,←r.length,List.length_map]
    refine wpAny_pyIter_list hl1 ?_
    have W:∀ A':Around,A'.handled=none→Walks prog w A' s1.heap.objs.size [s1.heap.objs.size,l] [s1.heap.objs.size] ls.length (fun i v=>us.toArray[i]?=some v) (fun i h=>h.IsListIter s1.heap.objs.size l i∧h.IsList l us.toArray):=fun A' hA=>by
      have q:=Walks.list (prog:=prog) (w:=w) hA s1.heap.objs.size l (Nat.ne_of_lt hlt1) us.toArray
      rwa [hlen] at q
    refine h _ _ _ _ _ _ W ⟨⟨_,Heap.get?_push_size _ rfl,rfl,rfl⟩,hl1.push _⟩ (fun b hb=>?_) (fun b hb=>?_) (fun b o e=>Heap.get?_push_of_some _ e) (fun i v e=>?_)
    · rcases List.mem_cons.mp hb with z | z
      · exact .inr (Nat.le_of_eq z.symm)
      · have z:b=l:=by simpa using z
        rw[z];exact .inl hlt
    · have z:b=s1.heap.objs.size:=by simpa using hb
      exact Nat.le_of_eq z.symm
    · have e':us[i]?=some v:=by simpa using e
      obtain ⟨v',hv',rv⟩:=vals_at r e'
      rw[List.getElem?_map] at hv'
      cases q:ls[i]? with
      | none=>rw[q] at hv';cases hv'
      | some m=>
        rw[q] at hv'
        cases hv'
        obtain ⟨t,rfl⟩:=rv
        exact ⟨t,by rw[List.getD_eq_getElem?_getD,q];rfl⟩
theorem walked_text {prog:Program} {w:World} {s:Shared} {l:List Nat} {t:Tok}:Walked prog w (.str ⟨l.toArray⟩ t) s "str" l.length (fun i=>[l.getD i 0]) where
  ty:=fun s1 _=>typeIs_str s1 _ _
  go:=fun A s1 Q E hh k h=>by
    have hlen:(⟨l.toArray⟩:Str).cps.size=l.length:=by show l.toArray.size=_;simp
    have item:∀ (i:Nat) (v:Value),(∃ c u,(⟨l.toArray⟩:Str).cps[i]?=some c∧v=.str ⟨#[c]⟩ u)→∃ t,v=.str ⟨[l.getD i 0].toArray⟩ t:=by
      rintro i v ⟨c,u,e,rfl⟩
      have e':l[i]?=some c:=by simpa using e
      exact ⟨u,by rw[List.getD_eq_getElem?_getD,e'];rfl⟩
    refine wpAny_pyIter_str fun o St W st=>?_
    rw[hlen] at W
    refine h _ _ _ _ _ _ W st (fun b hb=>.inr ?_) (fun b hb=>?_) (fun b o e=>Heap.get?_push_of_some _ e) (fun i v ⟨c,u,e,e2⟩=>item i v ⟨c,u,e,e2⟩)
    · have z:b=s1.heap.objs.size:=by simpa using hb
      exact Nat.le_of_eq z.symm
    · have z:b=s1.heap.objs.size:=by simpa using hb
      exact Nat.le_of_eq z.symm
section
variable {prog:Program} {w:World} {A:Around} {E:Value→Shared→Prop} {s:Shared}
abbrev noSet (led:Bool):Obj:={ cls:=.type "set",dict:=none,data:=.set #[] 0 (.fresh 0 0 led) }
theorem txset_new {h:Heap} {a:Addr} {led:Bool} (ho:h.get? a=some (noSet led)):TxSet prog w h a [] led:=
  ⟨_,#[],0,_,[],ho,⟨rfl,rfl,rfl⟩,rfl,fun e he=>by simp at he,rfl,rfl,fun _=>rfl,.refl _,.nil,by show 0 < 4096;decide⟩
def byTxt (w:World):Bool:=w.params.followText "set-order"
theorem set_new (a:Value) {Q₁:Value→Shared→Prop} (h:Q₁ (.ref s.heap.objs.size) { s with heap:=s.heap.push (noSet (!byTxt w)) }):
    codeAny (model prog w) A (.call (.builtin "set.__new__") ⟨[.type "set",a],[]⟩) (wants Q₁ E) s:=by
  refine codeAny_of_tree ?_
  show wpAny _ A.in1 (checkBuiltinCall "set.__new__" ⟨[.type "set",a],[]⟩ >>= fun _=>again (.builtin "set.__new__" ⟨[.type "set",a],[]⟩)) _ _ s
  refine wpAny_bind (wpAny_of_eq (F.newCall_set_1 a) (wpAny_pure ⟨plainId_quiet F.plain_set_new _,codeAny_builtin F.entry_set_new ?_⟩))
  rw[Around.under_plainId F.plain_set_new _]
  unfold Builtin.«set.__new__» Builtin.Frozenset.newClass
  have hsub:=sub_set_self
  obtain ⟨hp,g,d,tk,os⟩:=s
  dsimp only
  wp_walk
  refine wpAny_askSetting (wpAny_pure ?_)
  dsimp only
  simp only[newObj]
  exact wpAny_bind (wpAny_alloc (wpAny_pure (wpAny_pure h)))
set_option maxHeartbeats 3200000 in
theorem set_call {x:Value} {T:String} {n:Nat} {val:Nat→List Nat} {Q:Value→Shared→Prop} (hh:A.handled=none) (W:Walked prog w x s T n val) (t1:isSubtype (.type T) (.type "set")=pure false) (t2:isSubtype (.type T) (.type "frozenset")=pure false)
    (t3:(Value.type T == Value.type "dict")=false) (hb:n + 1 < scanBound)
    (h:∀ (h':Heap) (tk:Nat),TxSet prog w h' s.heap.objs.size (dd val n) (!byTxt w)→(∀ b o,s.heap.get? b=some o→h'.get? b=some o)→s.toks≤tk→Q (.ref s.heap.objs.size) { s with heap:=h',toks:=tk }):
    wpAny (model prog w) A (call (.type "set") [x]) Q E s:=by
  obtain ⟨c,tl,hmro⟩:=F.called_set.mro
  have hmade:=F.called_set.made
  have hsub:=F.called_set.sub
  refine wpAny_call (codeAny_of_tree ?_)
  show wpAny _ _ (callAny (.type "set") _) _ _ _
  refine wpAny_pure ⟨Code.quiet_builtin _ (by decide +kernel),codeAny_builtin F.entry_type_call ?_⟩
  rw[Around.under_plain (weight_type_call_type "set" [x] []) rfl]
  have h1:=F.called_set.notType
  have h2:=F.called_set.canCreate
  have hct:=F.typeCall_set_1 x
  repeat (any_goals (first | assumption | wp_step))
  refine codeAny_mono (set_new x (E:=E) (Q₁:=fun ob s₁=>ob=.ref s.heap.objs.size∧s₁={ s with heap:=s.heap.push (noSet (!byTxt w)) }) ⟨rfl,rfl⟩) fun r s₁ hr=>?_
  cases r with
  | error e=>exact hr
  | ok fl=>
    cases fl with
    | ret ob=>
      obtain ⟨rfl,rfl⟩:=hr
      have hS:(s.heap.push (noSet (!byTxt w))).get? s.heap.objs.size=some (noSet (!byTxt w)):=Heap.get?_push_size _ rfl
      have hT:Shared.TypeIs { s with heap:=s.heap.push (noSet (!byTxt w)) } (.ref s.heap.objs.size) "set":=⟨_,hS,rfl⟩
      have hli:=F.called_set.init.lookup
      have hbi:=F.called_set.init.bind (.ref s.heap.objs.size)
      have keep1:∀ b o,s.heap.get? b=some o→(s.heap.push (noSet (!byTxt w))).get? b=some o:=fun b o e=>Heap.get?_push_of_some _ e
      repeat (any_goals (first | assumption | wp_step))
      refine codeAny_mono (codeAny_call_builtin (R:=wants (fun r s₂=>r=.none∧∃ h' tk,s₂={ s with heap:=h',toks:=tk }∧TxSet prog w h' s.heap.objs.size (dd val n) (!byTxt w)∧(∀ b o,s.heap.get? b=some o→h'.get? b=some o)∧s.toks≤tk) E)
        F.called_set.init.plain F.entry_set_init (check_set_init_1 hT ?_)) fun r₂ s₂ hr₂=>?_
      · have hTx:=W.ty { s with heap:=s.heap.push (noSet (!byTxt w)) } keep1
        unfold Builtin.«set.__init__» noKeywords Builtin.Frozenset.updateFrom
        generalize hPI:pyIter=PI
        wp_walk
        subst hPI
        refine W.go _ _ _ _ (by simp [hh]) keep1 fun h2 I fp wr Pi St Wk st f1 f2 k2 hval=>?_
        refine wpAny_bind (wpAny_runValue ?_)
        have hSf:s.heap.objs.size∉fp:=fun z=>by
          rcases f1 _ z with q | q
          · exact Nat.lt_irrefl _ q
          · rw[Heap.size_push] at q;exact absurd q (Nat.not_succ_le_self _)
        refine set_loop ((Wk A.in1.in1.in1 (by simp [hh])).toS) s.heap.objs.size hSf val hval hb (n - 0) 0 _ (by omega) (Nat.zero_le _) st (txset_new (k2 _ _ hS)) fun s' hm hS'=>?_
        obtain ⟨h',g',d',tk',os'⟩:=s'
        have eg:g'=s.gens:=hm.gens
        have ed:d'=s.drawn:=hm.drawn
        have eo:os'=s.os:=hm.os
        have et:s.toks≤tk':=hm.toks
        subst eg ed eo
        refine wpAny_pure ?_
        refine wpAny_pure ⟨rfl,h',tk',rfl,hS',fun b o e=>?_,et⟩
        have hlt:=Heap.lt_size e
        refine hm.heap b o (fun z=>?_) (k2 b o (keep1 b o e))
        rcases List.mem_cons.mp z with q | q
        · rw[q] at hlt;exact Nat.lt_irrefl _ hlt
        · have q2:=f2 b q
          rw[Heap.size_push] at q2
          exact absurd (Nat.lt_of_lt_of_le hlt (Nat.le_of_succ_le q2)) (Nat.lt_irrefl _)
      · cases r₂ with
        | error e=>exact hr₂
        | ok fl₂=>
          cases fl₂ with
          | ret r=>
            obtain ⟨rfl,h',tk,rfl,hS',hk',htk⟩:=hr₂
            repeat (any_goals (first | assumption | wp_step))
            exact h _ _ hS' hk' htk
          | _=>exact hr₂.elim
    | _=>exact hr.elim
end
end L2
set_option Elab.async false
set_option linter.all false
set_option maxRecDepth 100000
namespace L2
open PySem PySem.Spec PyProof.Rows
theorem erase_perm {α:Type}:∀ (xs:List α) (i:Nat) (h:i < xs.length),(xs[i] :: xs.eraseIdx i).Perm xs
  | x :: xs,0,_=>.refl _
  | x :: xs,i + 1,h=>by
    have hi:i < xs.length:=by simpa using h
    have ih:=erase_perm xs i hi
    show (xs[i] :: x :: xs.eraseIdx i).Perm (x :: xs)
    exact (List.Perm.swap _ _ _).trans (ih.cons x)
section
variable {M:Model} {A:Around} {E:Value→Shared→Prop} {s:Shared}
theorem wp_choose' {src:Source} {n:Nat} {Q:Nat→Shared→Prop} (hn:n≠0) (h:∀ i d,i < n→Q i { s with drawn:=d }):wpAny M A (choose src n) Q E s:=fun Γ p hΓ=>by
  unfold choose
  rw[Sem.wp_choose]
  exact ⟨hn,h _ _ (Nat.mod_lt _ (Nat.pos_of_ne_zero hn))⟩
theorem wp_drawOrder {α:Type}:∀ (n:Nat) (xs:List α) (s:Shared) (Q:List α→Shared→Prop),xs.length=n→(∀ ys d,ys.Perm xs→Q ys { s with drawn:=d })→wpAny M A (drawOrder n xs) Q E s
  | 0,xs,s,Q,hl,h=>by
    have e:xs=[]:=List.eq_nil_of_length_eq_zero hl
    subst e
    unfold drawOrder
    exact wpAny_pure (h [] s.drawn (.refl _))
  | n + 1,[],s,Q,hl,h=>by cases hl
  | n + 1,x :: xs,s,Q,hl,h=>by
    unfold drawOrder
    refine wpAny_bind (wp_choose' (by simp) fun i d hi=>?_)
    have e:(x :: xs)[i]?=some (x :: xs)[i]:=List.getElem?_eq_getElem hi
    rw[e]
    dsimp only
    refine wpAny_bind (wp_drawOrder n ((x :: xs).eraseIdx i) _ _ ?_ fun ys d' p=>wpAny_pure ?_)
    · rw[List.length_eraseIdx_of_lt hi,hl];rfl
    · refine h _ d' ((List.Perm.cons _ p).trans ?_)
      exact erase_perm _ _ hi
end
theorem entry_set_iter:entryFor table "set.__iter__"=some Builtin.«frozenset.__iter__»:=entryFor_alias (id':="frozenset.__iter__") (by kernel_rfl) rfl (by decide +kernel) (by kernel_rfl)
theorem slot_setiter_next:Slot "set_iterator" "__next__" "set_iterator.__next__":=
  .of (owner:="set_iterator") (n:="__next__") (by rw[typeLookup_type,builtinLookup_eq_fast];kernel_rfl) (by decide +kernel) (by decide +kernel) (by decide +kernel)
    (by first | exact .inl (by decide +kernel) | exact .inr (by decide +kernel)) (by rw[isSubtype_type];kernel_rfl)
theorem entry_setiter_next:entryFor table "set_iterator.__next__"=some Builtin.«set_iterator.__next__»:=entryFor_of_fast (by kernel_rfl)
theorem args_setiter_next (a:Value):argsOk "set_iterator.__next__" ⟨[a],[]⟩:=by unfold argsOk;kernel_rfl
section
variable {prog:Program} {w:World} {A:Around} {E:Value→Shared→Prop} {s:Shared}
def SetIt (h:Heap) (I S:Addr) (first:Value) (i n ep:Nat):Prop:=∃ o,h.get? I=some o∧o.cls=.type "set_iterator"∧o.data=.fields #[first,.int i 0,.ref S,.int n 0,.int ep 0]
theorem fits_no {t:SetTable} {n:Nat} (hf:t.fits n=true):(t.place.size != n || decide (t.fill > t.mask))=false:=by
  simp only[SetTable.fits,Bool.and_eq_true,beq_iff_eq,decide_eq_true_eq] at hf
  simp [hf.1,Nat.not_lt.mpr hf.2]
theorem iter_set {S:Addr} {o:Obj} {es:Array (Int×Value)} {ep:Nat} {t:SetTable} {Q:Value→Shared→Prop} (ho:s.heap.get? S=some o) (hex:o.ExactSet) (hd:o.data=.set es ep t) (hf:t.fits es.size=true) (hz:es.size≤sizeLine)
    (h0:(byTxt w=true∨(t.plain=true∨es.size≤1))→Q (.ref s.heap.objs.size) { s with heap:=s.heap.push { cls:=.type "set_iterator",data:=.fields #[.int 0 0,.int 0 0,.ref S,.int es.size 0,.int ep 0] } })
    (h1:∀ (ps:List Nat) (d:Drawn),ps.Perm (List.range es.size)→Q (.ref (s.heap.objs.size + 1)) { s with drawn:=d,heap:=(Heap.push s.heap { cls:=.type "tuple",data:=.seq (ps.map (fun i=>Value.int ((i:Nat):Int) 0)).toArray }).push { cls:=.type "set_iterator",data:=.fields #[.ref s.heap.objs.size,.int 0 0,.ref S,.int es.size 0,.int ep 0] } }):wpAny (model prog w) A (pyIter (.ref S)) Q E s:=by
  have hT:s.TypeIs (.ref S) "set":=⟨o,ho,hex.1⟩
  refine wpAny_pyIter_slot hT F.slot_set_iter (wpAny_call_entry F.slot_set_iter hT entry_set_iter ?_ (F.args_set_iter_1 _))
  unfold Builtin.«frozenset.__iter__» Builtin.Frozenset.sizeOf setDrawn setsByText
  wp_walk
  rw[hd]
  dsimp only
  rw[fits_no hf]
  rw[if_neg Bool.false_ne_true]
  refine wpAny_pure (wpAny_pure (wpAny_pure ?_))
  refine wpAny_bind (wpAny_bind (wpAny_setState_of ho hd hf ?_))
  dsimp only
  refine wpAny_bind (wpAny_bind (wpAny_askSetting (wpAny_pure (wpAny_pure ?_))))
  show wpAny _ _ (if (!byTxt w&&(!t.plain&&decide (es.size > 1)))=true then _ else _) _ _ _
  split
  · refine wpAny_bind (wp_drawOrder es.size (List.range es.size) _ _ (by simp) fun ps d p=>?_)
    refine wpAny_bind ?_
    simp only[newTuple]
    refine wpAny_newObj_type ?_ (by show (List.map _ ps).toArray.size≤sizeLine;rw[List.size_toArray,List.length_map,p.length_eq,List.length_range];exact hz)
    refine wpAny_bind (wpAny_setEpoch_of (Heap.get?_push_of_some _ ho) hd hf (wpAny_bind (wpAny_newObj_type (wpAny_pure ⟨_,rfl,"set_iterator",_,⟨_,Heap.get?_push_size _ rfl,rfl⟩,slot_setiter_next.lookup,?_⟩))))
    have q:=h1 ps d p
    rw[Heap.size_push]
    exact q
  · rename_i hb
    refine wpAny_bind (wpAny_pure ?_)
    refine wpAny_bind (wpAny_setEpoch_of ho hd hf (wpAny_bind (wpAny_newObj_type (wpAny_pure ⟨_,rfl,"set_iterator",_,⟨_,Heap.get?_push_size _ rfl,rfl⟩,slot_setiter_next.lookup,h0 ?_⟩))))
    cases h:byTxt w with
    | true=>exact .inl rfl
    | false=>
      refine .inr ?_
      cases h':t.plain with
      | true=>exact .inl rfl
      | false=>
        rw[h,h'] at hb
        simp at hb
        exact .inr hb
end
end L2
set_option Elab.async false
set_option linter.all false
set_option maxRecDepth 100000
namespace L2
open PySem PySem.Spec PyProof.Rows
section
variable {prog:Program} {w:World} {A:Around} {E:Value→Shared→Prop} {s:Shared} {I S:Addr} {o:Obj} {es:Array (Int×Value)} {ep i n:Nat} {t:SetTable}
theorem SetIt.typ {first:Value} (h:SetIt s.heap I S first i n ep):s.TypeIs (.ref I) "set_iterator":=let ⟨o,h1,h2,_⟩:=h;⟨o,h1,h2⟩
abbrev bySlot (I S:Addr) (slot i ep:Nat):Sem PySem.Fin:=do
  match ←setNext S slot i ep with
  | some (x,next)=>do
    setField (.ref I) 0 (rawInt (next:Nat))
    setField (.ref I) 1 (rawInt ((i:Int) + 1))
    ret x
  | none=>do
    setField (.ref I) 2 Value.none
    raiseNew (←newExc (Value.type "StopIteration") [])
abbrev byPlace (I S:Addr) (first:Value) (i ep:Nat):Sem PySem.Fin:=do
  match ←seqItems? first with
  | some places=>match places[i]? with
    | some (.int place _)=>do
      let x ←setNextDrawn S place.toNat ep
      setField (.ref I) 1 (rawInt ((i:Int) + 1))
      ret x
    | some _=>unsupported "internal:set_iterator"
    | none=>do
      setField (.ref I) 0 (rawInt 0)
      setField (.ref I) 2 Value.none
      raiseNew (←newExc (Value.type "StopIteration") [])
  | _=>unsupported "internal:set_iterator"
abbrev NxQ (prog:Program) (w:World) (A:Around) (Q:Option Value→Shared→Prop) (E:Value→Shared→Prop) (fin:PySem.Fin) (s':Shared):Prop:=∃ v,fin=Fin.done (Flow.ret v)∧Q (some v) s'
abbrev NxE (prog:Program) (w:World) (A:Around) (Q:Option Value→Shared→Prop) (E:Value→Shared→Prop) (e:Value) (s':Shared):Prop:=
  wpAny (model prog w) A (do let b ←isInstance e (Value.type "StopIteration");if b=true then pure none else throw e) Q E s'
theorem next_slot {slot:Nat} {Q:Option Value→Shared→Prop} (hi:SetIt s.heap I S (.int (slot:Nat) 0) i es.size ep) (ho:s.heap.get? S=some o) (hd:o.data=.set es ep t) (hf:t.fits es.size=true)
    (h:wpAny (model prog w) A.in1 (bySlot I S slot i ep) (NxQ prog w A Q E) (NxE prog w A Q E) s):wpAny (model prog w) A (pyNext (.ref I)) Q E s:=by
  obtain ⟨oi,hoi,hci,hdi⟩:=id hi
  unfold pyNext
  refine wpAny_bind (wpAny_attempt (wpAny_callSpecial?_slot (name:=Str.ofString "__next__") hi.typ slot_setiter_next (wpAny_call_entry slot_setiter_next hi.typ entry_setiter_next ?_ (args_setiter_next _))))
  unfold Builtin.«set_iterator.__next__»
  wp_walk
  rw[hdi]
  dsimp only
  refine wpAny_pure ?_
  dsimp only
  refine wpAny_bind (wpAny_setEntries_of ho hd hf ?_)
  (try dsimp only)
  rw[if_neg (by simp)]
  refine wpAny_mono h (fun fin s' q=>?_) fun e s' q=>q
  obtain ⟨v,rfl,q⟩:=q
  exact ⟨v,rfl,wpAny_pure q⟩
theorem next_place {tp:Addr} {Q:Option Value→Shared→Prop} (hi:SetIt s.heap I S (.ref tp) i es.size ep) (ho:s.heap.get? S=some o) (hd:o.data=.set es ep t) (hf:t.fits es.size=true)
    (h:wpAny (model prog w) A.in1 (byPlace I S (.ref tp) i ep) (NxQ prog w A Q E) (NxE prog w A Q E) s):wpAny (model prog w) A (pyNext (.ref I)) Q E s:=by
  obtain ⟨oi,hoi,hci,hdi⟩:=id hi
  unfold pyNext
  refine wpAny_bind (wpAny_attempt (wpAny_callSpecial?_slot (name:=Str.ofString "__next__") hi.typ slot_setiter_next (wpAny_call_entry slot_setiter_next hi.typ entry_setiter_next ?_ (args_setiter_next _))))
  unfold Builtin.«set_iterator.__next__»
  wp_walk
  rw[hdi]
  dsimp only
  refine wpAny_pure ?_
  dsimp only
  refine wpAny_bind (wpAny_setEntries_of ho hd hf ?_)
  (try dsimp only)
  rw[if_neg (by simp)]
  refine wpAny_mono h (fun fin s' q=>?_) fun e s' q=>q
  obtain ⟨v,rfl,q⟩:=q
  exact ⟨v,rfl,wpAny_pure q⟩
theorem stop_it {Q:Option Value→Shared→Prop} (hh:A.handled=none) (hQ:∀ h',(∀ b o,s.heap.get? b=some o→h'.get? b=some o)→Q none { s with heap:=h' }):
    wpAny (model prog w) A.in1 (do raiseNew (←newExc (Value.type "StopIteration") [])) (NxQ prog w A Q E) (NxE prog w A Q E) s:=by
  refine wpAny_bind ?_
  simp only[newExc,newTuple]
  refine wpAny_bind (wpAny_newObj_type ?_ (by size_fits))
  refine wpAny_bind (m:=firstArgMember _ _) (wpAny_of_eq (a:=Value.none) (by first | rfl | (simp only[firstArgMember];rfl)) ?_)
  refine wpAny_newObj_type ?_ (by size_fits)
  simp only[raiseNew]
  refine wpAny_bind (wpAny_handled ?_)
  rw[show A.in1.handled=none from hh]
  refine wpAny_bind (wpAny_pure (wpAny_throw ?_))
  refine wpAny_bind (wpAny_isInstance (T:="StopIteration") (b:=true) ⟨_,Heap.get?_push_size _ rfl,rfl⟩ isSubtype_stop ?_)
  exact wpAny_pure (hQ _ fun b o e=>Heap.get?_push_of_some _ (Heap.get?_push_of_some _ e))
theorem it_put {h:Heap} {v:Value} {k:Nat} {oi:Obj} {vs:Array Value} (hoi:h.get? I=some oi) (hci:oi.cls=.type "set_iterator") (hdi:oi.data=.fields vs):
    ∃ o',(h.update I (Obj.mapFields (·.setIfInBounds k v))).get? I=some o'∧o'.cls=.type "set_iterator"∧o'.data=.fields (vs.setIfInBounds k v):=
  ⟨_,Heap.get?_update_self _ hoi (Obj.isFreed_of_fields (Obj.data_mapFields hdi _)),(Obj.cls_mapFields ..).trans hci,Obj.data_mapFields hdi _⟩
theorem setNext_txt {slot:Nat} {Q:Option (Value×Nat)→Shared→Prop} (ho:s.heap.get? S=some o) (hd:o.data=.set es ep t) (hf:t.fits es.size=true) (hb:byTxt w=true)
    (h:Q (((pickOrder (w.params.setOrder S ep) es)[i]?).map fun e=>(e.2,slot)) s):wpAny (model prog w) A (setNext S slot i ep) Q E s:=by
  unfold setNext
  refine wpAny_bind (wpAny_setState_of ho hd hf ?_)
  dsimp only
  unfold setsByText
  refine wpAny_bind (wpAny_bind (wpAny_askSetting (wpAny_pure ?_)))
  show wpAny _ _ (if byTxt w=true then _ else _) _ _ _
  rw[hb,if_pos rfl,if_neg (by simp)]
  unfold setWalk
  refine wpAny_bind (wpAny_bind (wpAny_setState_of ho hd hf ?_))
  dsimp only
  unfold setsByText
  refine wpAny_bind (wpAny_bind (wpAny_askSetting (wpAny_pure ?_)))
  show wpAny _ _ (if byTxt w=true then _ else _) _ _ _
  rw[hb,if_pos rfl]
  exact wpAny_bind (wpAny_askSetting (wpAny_pure (wpAny_pure h)))
theorem setNext_one {slot:Nat} {Q:Option (Value×Nat)→Shared→Prop} (ho:s.heap.get? S=some o) (hd:o.data=.set es ep t) (hf:t.fits es.size=true) (hb:byTxt w=false) (hl:t.led=true) (h1:es.size≤1)
    (h:Q (match es[SetTable.below t.place slot]?,t.place[SetTable.below t.place slot]? with | some (_,x),some j=>some (x,j + 1) | _,_=>none) s):wpAny (model prog w) A (setNext S slot i ep) Q E s:=by
  unfold setNext
  refine wpAny_bind (wpAny_setState_of ho hd hf ?_)
  dsimp only
  unfold setsByText
  refine wpAny_bind (wpAny_bind (wpAny_askSetting (wpAny_pure ?_)))
  show wpAny _ _ (if byTxt w=true then _ else (if (!t.plain&&decide (es.size > 1))=true then _ else _)) _ _ _
  have hn:¬ es.size > 1:=by omega
  rw[hb,if_neg Bool.false_ne_true,decide_eq_false hn,Bool.and_false,if_neg Bool.false_ne_true]
  show wpAny _ _ ((if (!t.led&&!es.isEmpty)=true then (do let _ ←(unsupported "set:maker-not-led":Sem Unit);pure ()) else pure ()) >>= fun _=>_) _ _ _
  rw[hl,Bool.not_true,Bool.false_and,if_neg Bool.false_ne_true]
  exact wpAny_bind (wpAny_pure (wpAny_pure h))
end
end L2
set_option Elab.async false
set_option linter.all false
set_option maxRecDepth 100000
namespace L2
open PySem PySem.Spec PyProof.Rows
theorem pick_perm {α:Type} {next:Nat→Nat}:∀ (fuel k:Nat) (left:List α) (out:Array α),left.length=fuel→(pickOrder.go next fuel k left out).toList.Perm (out.toList++left)
  | 0,k,left,out,h=>by
    have e:left=[]:=List.eq_nil_of_length_eq_zero h
    subst e
    unfold pickOrder.go
    simp
  | fuel + 1,k,left,out,h=>by
    have hlt:next k % left.length < left.length:=Nat.mod_lt _ (by omega)
    unfold pickOrder.go
    rw[List.getElem?_eq_getElem hlt]
    dsimp only
    refine (pick_perm fuel (k + 1) _ _ (by rw[List.length_eraseIdx_of_lt hlt,h];rfl)).trans ?_
    rw[Array.toList_push,List.append_assoc]
    exact (erase_perm left _ hlt).append_left _
theorem pickOrder_perm {α:Type} {next:Nat→Nat} {xs:Array α}:(pickOrder next xs).toList.Perm xs.toList:=by
  unfold pickOrder
  have:=pick_perm (next:=next) xs.size 0 xs.toList #[] (by simp)
  simpa using this
theorem slot_setiter_iter:Slot "set_iterator" "__iter__" "set_iterator.__iter__":=
  .of (owner:="set_iterator") (n:="__iter__") (by rw[typeLookup_type,builtinLookup_eq_fast];kernel_rfl) (by decide +kernel) (by decide +kernel) (by decide +kernel) (by first | exact .inl (by decide +kernel) | exact .inr (by decide +kernel)) (by rw[isSubtype_type];kernel_rfl)
theorem entry_setiter_iter:entryFor table "set_iterator.__iter__"=some Builtin.«dict_keyiterator.__iter__»:=entryFor_alias (id':="dict_keyiterator.__iter__") (by kernel_rfl) rfl (by decide +kernel) (by kernel_rfl)
theorem args_setiter_iter (a:Value):argsOk "set_iterator.__iter__" ⟨[a],[]⟩:=by unfold argsOk;kernel_rfl
section
variable {prog:Program} {w:World} {A:Around} {E:Value→Shared→Prop} {s:Shared} {I S:Addr} {o:Obj} {es:Array (Int×Value)} {ep i n:Nat} {t:SetTable}
theorem iter_self {first:Value} {Q:Value→Shared→Prop} (hi:SetIt s.heap I S first i n ep) (h:Q (.ref I) s):wpAny (model prog w) A (pyIter (.ref I)) Q E s:=by
  refine wpAny_pyIter_slot hi.typ slot_setiter_iter (wpAny_call_entry slot_setiter_iter hi.typ entry_setiter_iter ?_ (args_setiter_iter _))
  show wpAny _ _ (ret (.ref I)) _ _ s
  exact wpAny_pure ⟨_,rfl,"set_iterator",_,hi.typ,slot_setiter_next.lookup,h⟩
theorem keep_other {h h':Heap} {o:Obj} (sb:Heap.SameBut I h h') (hne:S≠I) (ho:h.get? S=some o):h'.get? S=some o:=(sb.2 S hne).trans ho
theorem walks_txt (hh:A.handled=none) (hne:S≠I) (hd:o.data=.set es ep t) (hf:t.fits es.size=true) (hb:byTxt w=true):
    Walks prog w A I [I,S] [I] es.size (fun i v=>(((pickOrder (w.params.setOrder S ep) es).toList).map (·.2))[i]?=some v) (fun i h=>SetIt h I S (.int ((0:Nat):Int) 0) i es.size ep∧h.get? S=some o) where
  sub:=fun b hb=>by simp at hb;simp [hb]
  frame:=fun i h h' ⟨⟨oi,h1,r⟩,h2⟩ hk=>⟨⟨oi,hk I (by simp) _ h1,r⟩,hk S (by simp) _ h2⟩
  item:=fun i s Q E hi ⟨st,ho⟩ hQ=>by
    have hl:(pickOrder (w.params.setOrder S ep) es).size=es.size:=by rw[←Array.length_toList,pickOrder_perm.length_eq,Array.length_toList]
    have he:(pickOrder (w.params.setOrder S ep) es)[i]?=some (pickOrder (w.params.setOrder S ep) es)[i]:=by simp [hl,hi]
    refine next_slot st ho hd hf (wpAny_bind (setNext_txt ho hd hf hb ?_))
    rw[he]
    dsimp only[Option.map_some]
    obtain ⟨oi,g1,g2,g3⟩:=id st
    refine wpAny_bind (wpAny_setField g1 g3 (by simp) ?_)
    obtain ⟨o1,k1,k2,k3⟩:=it_put (v:=rawInt ((0:Nat):Int)) (k:=0) g1 g2 g3
    refine wpAny_bind (wpAny_setField k1 k3 (by simp) ?_)
    obtain ⟨o2,m1,m2,m3⟩:=it_put (v:=rawInt ((i:Int) + 1)) (k:=1) k1 k2 k3
    have sb:=(Heap.SameBut.update s.heap I (Obj.mapFields (·.setIfInBounds 0 (rawInt ((0:Nat):Int))))).trans (Heap.SameBut.update _ I (Obj.mapFields (·.setIfInBounds 1 (rawInt ((i:Int) + 1)))))
    refine wpAny_pure ⟨_,rfl,hQ _ _ s.toks ?_ ⟨⟨o2,m1,m2,?_⟩,keep_other sb hne ho⟩ fun b o hb e=>(sb.2 b (by simpa using hb)).trans e⟩
    · rw[List.getElem?_map,Array.getElem?_toList,he];rfl
    · rw[m3];simp [rawInt]
  done:=fun s Q E ⟨st,ho⟩ hQ=>by
    have hl:(pickOrder (w.params.setOrder S ep) es).size=es.size:=by rw[←Array.length_toList,pickOrder_perm.length_eq,Array.length_toList]
    have he:(pickOrder (w.params.setOrder S ep) es)[es.size]?=none:=by simp [hl]
    refine next_slot st ho hd hf (wpAny_bind (setNext_txt ho hd hf hb ?_))
    rw[he]
    dsimp only[Option.map_none]
    obtain ⟨oi,g1,g2,g3⟩:=id st
    refine wpAny_bind (wpAny_setField g1 g3 (by simp) ?_)
    have sb:=Heap.SameBut.update s.heap I (Obj.mapFields (·.setIfInBounds 2 Value.none))
    exact stop_it (A:=A) hh fun h' k=>hQ h' s.toks fun b o hb e=>k b o ((sb.2 b (by simpa using hb)).trans e)
  self:=fun i s Q E ⟨st,_⟩ hQ=>iter_self st hQ
def oneSlot (t:SetTable) (i:Nat):Nat:=if i=0 then 0 else t.place.getD 0 0 + 1
theorem below_zero {xs:Array Nat}:SetTable.below xs 0=0:=by
  unfold SetTable.below
  have all:∀ fuel hi,SetTable.below.go xs 0 fuel 0 hi=0:=by
    intro fuel
    induction fuel with
    | zero=>intro hi;unfold SetTable.below.go;rfl
    | succ f ih=>
      intro hi
      unfold SetTable.below.go
      split
      · rw[if_neg (Nat.not_lt_zero _)];exact ih _
      · rfl
  exact all _ _
theorem below_one {j:Nat}:SetTable.below #[j] (j + 1)=1:=by
  unfold SetTable.below
  show SetTable.below.go #[j] (j + 1) 1 0 1=1
  unfold SetTable.below.go
  simp [SetTable.below.go]
theorem one_of {xs:Array Nat} (h:xs.size=1):∃ j,xs=#[j]:=by
  obtain ⟨l⟩:=xs
  match l,h with
  | [j],_=>exact ⟨j,rfl⟩
theorem walks_one (hh:A.handled=none) (hne:S≠I) (hd:o.data=.set es ep t) (hf:t.fits es.size=true) (hb:byTxt w=false) (hl:t.led=true) (h1:es.size≤1):
    Walks prog w A I [I,S] [I] es.size (fun i v=>(es.toList.map (·.2))[i]?=some v) (fun i h=>SetIt h I S (.int ((oneSlot t i:Nat):Int) 0) i es.size ep∧h.get? S=some o) where
  sub:=fun b hb=>by simp at hb;simp [hb]
  frame:=fun i h h' ⟨⟨oi,h1,r⟩,h2⟩ hk=>⟨⟨oi,hk I (by simp) _ h1,r⟩,hk S (by simp) _ h2⟩
  item:=fun i s Q E hi ⟨st,ho⟩ hQ=>by
    have i0:i=0:=by omega
    subst i0
    have ps:t.place.size=es.size:=by
      have:=hf
      simp only[SetTable.fits,Bool.and_eq_true,beq_iff_eq] at this
      exact this.1
    have he:es[0]?=some es[0]:=by simp [hi]
    have hp:t.place[0]?=some (t.place.getD 0 0):=by
      have:0 < t.place.size:=by omega
      simp [this]
    refine next_slot st ho hd hf (wpAny_bind (setNext_one ho hd hf hb hl h1 ?_))
    rw[show oneSlot t 0=0 from rfl,below_zero,he,hp]
    dsimp only
    obtain ⟨oi,g1,g2,g3⟩:=id st
    refine wpAny_bind (wpAny_setField g1 g3 (by simp) ?_)
    obtain ⟨o1,k1,k2,k3⟩:=it_put (v:=rawInt ((t.place.getD 0 0 + 1:Nat):Int)) (k:=0) g1 g2 g3
    refine wpAny_bind (wpAny_setField k1 k3 (by simp) ?_)
    obtain ⟨o2,m1,m2,m3⟩:=it_put (v:=rawInt (((0:Nat):Int) + 1)) (k:=1) k1 k2 k3
    have sb:=(Heap.SameBut.update s.heap I (Obj.mapFields (·.setIfInBounds 0 (rawInt ((t.place.getD 0 0 + 1:Nat):Int))))).trans (Heap.SameBut.update _ I (Obj.mapFields (·.setIfInBounds 1 (rawInt (((0:Nat):Int) + 1)))))
    refine wpAny_pure ⟨_,rfl,hQ _ _ s.toks ?_ ⟨⟨o2,m1,m2,?_⟩,keep_other sb hne ho⟩ fun b o hb e=>(sb.2 b (by simpa using hb)).trans e⟩
    · rw[List.getElem?_map,Array.getElem?_toList,he];rfl
    · rw[m3];simp [rawInt,oneSlot]
  done:=fun s Q E ⟨st,ho⟩ hQ=>by
    have ps:t.place.size=es.size:=by
      have:=hf
      simp only[SetTable.fits,Bool.and_eq_true,beq_iff_eq] at this
      exact this.1
    have hn:es[SetTable.below t.place (oneSlot t es.size)]?=none:=by
      have hz:es.size=0∨es.size=1:=by omega
      rcases hz with z | z
      · simp [z]
      · have e1:∃ j,t.place=#[j]:=by
          have:t.place.size=1:=by omega
          exact one_of this
        obtain ⟨j,ej⟩:=e1
        have:oneSlot t es.size=j + 1:=by unfold oneSlot;rw[if_neg (by omega),ej];rfl
        rw[this,ej,below_one]
        simp [z]
    refine next_slot st ho hd hf (wpAny_bind (setNext_one ho hd hf hb hl h1 ?_))
    rw[hn]
    dsimp only
    obtain ⟨oi,g1,g2,g3⟩:=id st
    refine wpAny_bind (wpAny_setField g1 g3 (by simp) ?_)
    have sb:=Heap.SameBut.update s.heap I (Obj.mapFields (·.setIfInBounds 2 Value.none))
    exact stop_it (A:=A) hh fun h' k=>hQ h' s.toks fun b o hb e=>k b o ((sb.2 b (by simpa using hb)).trans e)
  self:=fun i s Q E ⟨st,_⟩ hQ=>iter_self st hQ
theorem next_drawn {p:Nat} {e:Int×Value} {Q:Value→Shared→Prop} (ho:s.heap.get? S=some o) (hd:o.data=.set es ep t) (hf:t.fits es.size=true) (he:es[p]?=some e) (h:Q e.2 s):wpAny (model prog w) A (setNextDrawn S p ep) Q E s:=by
  unfold setNextDrawn
  refine wpAny_bind (wpAny_setState_of ho hd hf ?_)
  dsimp only
  rw[if_neg (by simp),he]
  exact wpAny_pure h
theorem walks_drawn {tp:Addr} {ps:List Nat} (hh:A.handled=none) (hne:S≠I) (hnt:tp≠I) (hd:o.data=.set es ep t) (hf:t.fits es.size=true) (hp:ps.Perm (List.range es.size)):
    Walks prog w A I [I,S,tp] [I] es.size (fun i v=>(ps.map fun p=>(es.getD p (0,.none)).2)[i]?=some v) (fun i h=>SetIt h I S (.ref tp) i es.size ep∧h.get? S=some o∧h.get? tp=some { cls:=.type "tuple",data:=.seq (ps.map (fun i=>Value.int ((i:Nat):Int) 0)).toArray }) where
  sub:=fun b hb=>by simp at hb;simp [hb]
  frame:=fun i h h' ⟨⟨oi,h1,r⟩,h2,h3⟩ hk=>⟨⟨oi,hk I (by simp) _ h1,r⟩,hk S (by simp) _ h2,hk tp (by simp) _ h3⟩
  item:=fun i s Q E hi ⟨st,ho,ht⟩ hQ=>by
    have hl:ps.length=es.size:=by rw[hp.length_eq,List.length_range]
    have hi':i < ps.length:=by omega
    have hpi:ps[i]?=some ps[i]:=List.getElem?_eq_getElem hi'
    have hlt:ps[i] < es.size:=List.mem_range.mp (hp.mem_iff.mp (List.getElem_mem hi'))
    have he:es[ps[i]]?=some es[ps[i]]:=by simp [hlt]
    refine next_place st ho hd hf (wpAny_bind (wpAny_seqItems ht rfl ?_))
    dsimp only
    have hx:((ps.map (fun i=>Value.int ((i:Nat):Int) 0)).toArray)[i]?=some (Value.int ((ps[i]:Nat):Int) 0):=by simp [hpi]
    rw[hx]
    dsimp only
    refine wpAny_bind (next_drawn ho hd hf he ?_)
    obtain ⟨oi,g1,g2,g3⟩:=id st
    refine wpAny_bind (wpAny_setField g1 g3 (by simp) ?_)
    obtain ⟨o2,m1,m2,m3⟩:=it_put (v:=rawInt ((i:Int) + 1)) (k:=1) g1 g2 g3
    have sb:=Heap.SameBut.update s.heap I (Obj.mapFields (·.setIfInBounds 1 (rawInt ((i:Int) + 1))))
    refine wpAny_pure ⟨_,rfl,hQ _ _ s.toks ?_ ⟨⟨o2,m1,m2,?_⟩,keep_other sb hne ho,keep_other sb hnt ht⟩ fun b o hb e=>(sb.2 b (by simpa using hb)).trans e⟩
    · rw[List.getElem?_map,hpi];simp [hlt]
    · rw[m3];simp [rawInt]
  done:=fun s Q E ⟨st,ho,ht⟩ hQ=>by
    have hl:ps.length=es.size:=by rw[hp.length_eq,List.length_range]
    refine next_place st ho hd hf (wpAny_bind (wpAny_seqItems ht rfl ?_))
    dsimp only
    have hx:((ps.map (fun i=>Value.int ((i:Nat):Int) 0)).toArray)[es.size]?=none:=by simp [hl]
    rw[hx]
    dsimp only
    obtain ⟨oi,g1,g2,g3⟩:=id st
    refine wpAny_bind (wpAny_setField g1 g3 (by simp) ?_)
    obtain ⟨o1,k1,k2,k3⟩:=it_put (v:=rawInt 0) (k:=0) g1 g2 g3
    refine wpAny_bind (wpAny_setField k1 k3 (by simp) ?_)
    have sb:=(Heap.SameBut.update s.heap I (Obj.mapFields (·.setIfInBounds 0 (rawInt 0)))).trans (Heap.SameBut.update _ I (Obj.mapFields (·.setIfInBounds 2 Value.none)))
    exact stop_it (A:=A) hh fun h' k=>hQ h' s.toks fun b o hb e=>k b o ((sb.2 b (by simpa using hb)).trans e)
  self:=fun i s Q E ⟨st,_⟩ hQ=>iter_self st hQ
end
end L2
set_option Elab.async false
set_option linter.all false
set_option maxRecDepth 100000
namespace L2
open PySem PySem.Spec PyProof.Rows
theorem hint_set_len:typeLookup (.type "set") "__len__"=pure (some (.builtin "set.__len__")):=by rw[typeLookup_type,builtinLookup_eq_fast];kernel_rfl
section
variable {prog:Program} {w:World} {A:Around} {E:Value→Shared→Prop} {s:Shared}
theorem vals_drawn {es:Array (Int×Value)} {ps:List Nat} (hp:ps.Perm (List.range es.size)):(ps.map fun p=>(es.getD p (0,.none)).2).Perm (es.toList.map (·.2)):=by
  have q:=hp.map (fun p=>(es.getD p (0,.none)).2)
  refine q.trans (.of_eq ?_)
  apply List.ext_getElem
  · simp
  · intro n h1 h2
    have hn:n < es.size:=by simpa using h2
    simp [hn]
theorem iter_txset {S:Addr} {ls:List (List Nat)} {Q:Value→Shared→Prop} (hS:TxSet prog w s.heap S ls (!byTxt w))
    (h:∀ (h2:Heap) (d:Drawn) (I:Addr) (fp:List Addr) (vs:List Value) (ms:List (List Nat)) (St:Nat→Heap→Prop),(∀ A':Around,A'.handled=none→Walks prog w A' I fp [I] ls.length (fun i v=>vs[i]?=some v) St)→St 0 h2 →
      (∀ b∈fp,b=S∨s.heap.objs.size≤b)→s.heap.objs.size≤I→(∀ b o,s.heap.get? b=some o→h2.get? b=some o)→ms.Perm ls→Vals (ms.map tx) vs→Q (.ref I) { s with heap:=h2,drawn:=d }):
    wpAny (model prog w) A (pyIter (.ref S)) Q E s:=by
  obtain ⟨o,es,ep,t,ms,ho,hex,hd,hel,hf,hled,hpl,hp,hv,hb⟩:=hS
  have hlen:es.size=ls.length:=by
    have q:=hv.length
    rw[List.length_map,List.length_map] at q
    rw[←Array.length_toList,←q,hp.length_eq]
  have hlt:=Heap.lt_size ho
  refine iter_set ho hex hd hf (fits_of_scanBound hb) (fun hc=>?_) fun ps d pp=>?_
  · have nI:S≠s.heap.objs.size:=Nat.ne_of_lt hlt
    have st:(s.heap.push ({ cls:=.type "set_iterator",data:=.fields #[.int 0 0,.int 0 0,.ref S,.int es.size 0,.int ep 0] }:Obj)).get? s.heap.objs.size=some { cls:=.type "set_iterator",data:=.fields #[.int 0 0,.int 0 0,.ref S,.int es.size 0,.int ep 0] }:=Heap.get?_push_size _ rfl
    have fp:∀ b∈[s.heap.objs.size,S],b=S∨s.heap.objs.size≤b:=fun b hb=>by
      rcases List.mem_cons.mp hb with z | z
      · exact .inr (Nat.le_of_eq z.symm)
      · exact .inl (by simpa using z)
    cases hby:byTxt w with
    | true=>
      obtain ⟨ms',p',r'⟩:=vals_perm ((pickOrder_perm (next:=w.params.setOrder S ep) (xs:=es)).map (·.2)) hv
      have W:∀ A':Around,A'.handled=none→_:=fun A' hA=>walks_txt (prog:=prog) (w:=w) (A:=A') (I:=s.heap.objs.size) (S:=S) (o:=o) hA nI hd hf hby
      rw[hlen] at W
      exact h _ s.drawn _ _ _ ms' _ W ⟨⟨_,st,rfl,by rw[hlen];rfl⟩,Heap.get?_push_of_some _ ho⟩ fp (Nat.le_refl _) (fun b o e=>Heap.get?_push_of_some _ e) (p'.trans hp) r'
    | false=>
      have h1:es.size≤1:=by
        rcases hc with z | z | z
        · rw[hby] at z;cases z
        · rw[hpl z];exact Nat.zero_le _
        · exact z
      have hl:t.led=true:=by rw[hled,hby];rfl
      have W:∀ A':Around,A'.handled=none→_:=fun A' hA=>walks_one (prog:=prog) (w:=w) (A:=A') (I:=s.heap.objs.size) (S:=S) (o:=o) hA nI hd hf hby hl h1
      rw[hlen] at W
      exact h _ s.drawn _ _ _ ms _ W ⟨⟨_,st,rfl,by rw[hlen];rfl⟩,Heap.get?_push_of_some _ ho⟩ fp (Nat.le_refl _) (fun b o e=>Heap.get?_push_of_some _ e) hp hv
  · have nI:S≠s.heap.objs.size + 1:=Nat.ne_of_lt (Nat.lt_succ_of_lt hlt)
    have nT:s.heap.objs.size≠s.heap.objs.size + 1:=Nat.ne_of_lt (Nat.lt_succ_self _)
    obtain ⟨ms',p',r'⟩:=vals_perm (vals_drawn pp) hv
    have W:∀ A':Around,A'.handled=none→_:=fun A' hA=>walks_drawn (prog:=prog) (w:=w) (A:=A') (I:=s.heap.objs.size + 1) (S:=S) (o:=o) (tp:=s.heap.objs.size) hA nI nT hd hf pp
    rw[hlen] at W
    refine h _ d _ _ _ ms' _ W ⟨⟨{ cls:=.type "set_iterator",data:=.fields #[.ref s.heap.objs.size,.int 0 0,.ref S,.int es.size 0,.int ep 0] },?_,rfl,by rw[hlen];rfl⟩,Heap.get?_push_of_some _ (Heap.get?_push_of_some _ ho),Heap.get?_push_of_some _ (Heap.get?_push_size _ rfl)⟩ ?_ (Nat.le_succ _) (fun b o e=>Heap.get?_push_of_some _ (Heap.get?_push_of_some _ e)) (p'.trans hp) r'
    · rw[←Heap.size_push];exact Heap.get?_push_size _ rfl
    · intro b hb
      rcases List.mem_cons.mp hb with z | z
      · exact .inr (by rw[z];exact Nat.le_succ _)
      · rcases List.mem_cons.mp z with z | z
        · exact .inl z
        · have z:b=s.heap.objs.size:=by simpa using z
          exact .inr (Nat.le_of_eq z.symm)
theorem collect_set {S:Addr} {ls:List (List Nat)} {Q:List Value→Shared→Prop} (hh:A.handled=none) (hS:TxSet prog w s.heap S ls (!byTxt w)) (hn:ls.length≤sizeLine)
    (hQ:∀ (s':Shared) (vs:List Value) (ms:List (List Nat)),(∀ b o,s.heap.get? b=some o→s'.heap.get? b=some o)→s'.gens=s.gens→s'.os=s.os→ms.Perm ls→Vals (ms.map tx) vs→Q vs s'):wpAny (model prog w) A (collect (.ref S)) Q E s:=by
  unfold collect
  refine wpAny_bind (wpAny_runValue (codeAny_builtin F.entry_proto_collect ?_))
  rw[Around.under_plainId F.plain_proto_collect _]
  show wpAny _ A.in1 (newList [] >>= fun l=>again (.builtin "list.__iadd__" ⟨[l,.ref S],[]⟩)) _ _ s
  refine wpAny_bind (wpAny_newObj_type (wpAny_pure ⟨plainId_quiet F.plain_list_iadd _,codeAny_builtin F.entry_list_iadd ?_⟩))
  rw[Around.under_plainId F.plain_list_iadd _]
  generalize hH:s.heap.push { cls:=.type "list",data:=.seq ([]:List Value).toArray }=H
  have hHs:H.objs.size=s.heap.objs.size + 1:=by rw[←hH,Heap.size_push]
  have hL:H.get? s.heap.objs.size=some { cls:=.type "list",data:=.seq ([]:List Value).toArray }:=hH▸Heap.get?_push_size _ rfl
  have k1:∀ b o,s.heap.get? b=some o→H.get? b=some o:=fun b o e=>hH▸Heap.get?_push_of_some _ e
  have hS1:TxSet prog w H S ls (!byTxt w):=hS.keep fun o e=>k1 S o e
  have hT:Shared.TypeIs { s with heap:=H } (.ref S) "set":=hS1.typ (s:={ s with heap:=H })
  have nS:S≠s.heap.objs.size:=by
    obtain ⟨o,_,_,_,_,ho,_⟩:=hS
    exact Nat.ne_of_lt (Heap.lt_size ho)
  show wpAny _ A.in1 (Builtin.List.listExtendWith (.ref s.heap.objs.size) (.ref S) (.ref s.heap.objs.size)) _ _ { s with heap:=H }
  unfold Builtin.List.listExtendWith
  refine wpAny_bind (wpAny_typeOf hT ?_)
  have h1:Builtin.List.listSameRef (.ref s.heap.objs.size) (.ref S)=false:=by simp [Builtin.List.listSameRef,Ne.symm nS]
  have h2:(Value.type "set" == Value.type "list")=false:=by decide
  have h3:(Value.type "set" == Value.type "tuple")=false:=by decide
  simp only[h1,h2,h3,Bool.or_false,Bool.false_eq_true,if_false]
  refine wpAny_bind (iter_txset (s:={ s with heap:=H }) hS1 fun h2' d I fp vs ms St W st hfp hI k2 hp hv=>?_)
  have hT2:Shared.TypeIs { s with heap:=h2',drawn:=d } (.ref S) "set":=(hS1.keep fun o e=>k2 S o e).typ (s:={ s with heap:=h2',drawn:=d })
  refine wpAny_bind (wpAny_holding ?_)
  unfold Builtin.List.listLengthHint
  refine wpAny_bind (wpAny_specialOf hT2 hint_set_len ?_)
  wp_delta
  refine wpAny_bind (wpAny_isInstance (T:="set") (v:=.ref S) (b:=true) hT2 (by rw[isSubtype_type];kernel_rfl) ?_)
  show wpAny _ A.in1 (typeOf (Value.ref S) >>= fun r=>_) _ _ _
  refine wpAny_bind (wpAny_typeOf hT2 ?_)
  refine wpAny_pure ?_
  rw[if_pos (by decide)]
  refine wpAny_bind (wpAny_rule ?_)
  have hL2:h2'.get? s.heap.objs.size=some { cls:=.type "list",data:=.seq ([]:List Value).toArray }:=k2 _ _ hL
  refine wpAny_bind ?_
  show wpAny _ A.in1 (updateSeq s.heap.objs.size (·.push .none) >>= fun _=>updateSeq s.heap.objs.size (·.pop)) _ _ _
  refine wpAny_bind (wpAny_updateSeq hL2 rfl ?_)
  have hL3:=Heap.get?_update_self (Obj.mapSeq (·.push Value.none)) hL2 rfl
  refine wpAny_updateSeq hL3 rfl ?_
  have hL4:=Heap.get?_update_self (Obj.mapSeq (·.pop)) hL3 rfl
  have oth:∀ b o,b≠s.heap.objs.size→h2'.get? b=some o→((h2'.update s.heap.objs.size (Obj.mapSeq (·.push Value.none))).update s.heap.objs.size (Obj.mapSeq (·.pop))).get? b=some o:=
    fun b o hb e=>(Heap.get?_update_other _ _ (Ne.symm hb)).trans ((Heap.get?_update_other _ _ (Ne.symm hb)).trans e)
  have hle:s.heap.objs.size + 1≤I:=by rw[←hHs];exact hI
  have hSf:s.heap.objs.size∉fp:=fun z=>by
    rcases hfp _ z with q | q
    · exact nS q.symm
    · have q':H.objs.size≤s.heap.objs.size:=q
      rw[hHs] at q';exact absurd q' (Nat.not_succ_le_self _)
  refine wpAny_pure ⟨plainId_quiet F.plain_extend_loop _,codeAny_extend_loopS (W A.in1 hh).toS hn _ hSf _ ls.length 0 _ _ _ rfl (Nat.zero_le _) ((W A.in1 hh).frame 0 h2' _ st fun b hb o e=>oth b o (fun z=>hSf (z▸hb)) e) hL4 (ItemsOf.nil _) fun s' acc' c' hm hS' hacc=>?_⟩
  show wpAny _ A (load s.heap.objs.size >>= fun r=>_) _ _ s'
  refine wpAny_bind (wpAny_load hS' ?_)
  have hvs:acc'.toList=vs:=by
    have hl:vs.length=ls.length:=by rw[←hv.length,List.length_map,hp.length_eq]
    apply List.ext_getElem?
    intro j
    rw[Array.getElem?_toList]
    by_cases hj:j < ls.length
    · have hj':j < acc'.size:=by rw[hacc.1];exact hj
      have e:acc'[j]?=some acc'[j]:=by simp [hj']
      rw[e,hacc.2 j _ e]
    · rw[Array.getElem?_eq_none (by rw[hacc.1];omega),List.getElem?_eq_none (by omega)]
  have done:=hQ s' vs ms (fun b o e=>by
    have hlt:=Heap.lt_size e
    refine hm.heap b o (fun z=>?_) (oth b o (Nat.ne_of_lt hlt) (k2 b o (k1 b o e)))
    rcases List.mem_cons.mp z with q | q
    · rw[q] at hlt;exact Nat.lt_irrefl _ hlt
    · have q:b=I:=by simpa using q
      rw[q] at hlt
      exact absurd hlt (Nat.not_lt.mpr (Nat.le_of_succ_le hle))) hm.gens hm.os hp hv
  rw[←hvs] at done
  exact wpAny_pure done
end
end L2
set_option Elab.async false
set_option linter.all false
set_option maxRecDepth 100000
namespace L2
open PySem PySem.Spec PyProof.Rows
def leT (a b:List Nat):Bool:=!decide (b < a)
def sortT (ls:List (List Nat)):List (List Nat):=ls.mergeSort leT
theorem leT_iff {a b:List Nat}:leT a b=true↔a≤b:=by
  unfold leT
  rw[Bool.not_eq_true',decide_eq_false_iff_not]
  exact List.not_lt
theorem sortT_perm (ls:List (List Nat)):(sortT ls).Perm ls:=List.mergeSort_perm _ _
theorem sortT_sorted (ls:List (List Nat)):(sortT ls).Pairwise (fun a b=>leT a b=true):=
  List.pairwise_mergeSort (le:=leT) (fun a b c h1 h2=>leT_iff.mpr (List.le_trans (leT_iff.mp h1) (leT_iff.mp h2))) (fun a b=>Bool.or_eq_true_iff.mpr ((List.le_total a b).imp leT_iff.mpr leT_iff.mpr)) ls
theorem sortT_uniq {ms ls:List (List Nat)} (p:ms.Perm ls) (h:ms.Pairwise (fun a b=>leT a b=true)):ms=sortT ls:=
  List.Perm.eq_of_pairwise (fun a b _ _ h1 h2=>List.le_antisymm (leT_iff.mp h1) (leT_iff.mp h2)) h (sortT_sorted ls) (p.trans (sortT_perm ls).symm)
theorem sortT_congr {ms ls:List (List Nat)} (p:ms.Perm ls):sortT ms=sortT ls:=sortT_uniq ((sortT_perm ms).trans p) (sortT_sorted ms)
theorem strs_of:∀ {us:List Value} {ss:List Str},StrsAre us ss→Vals ((ss.map fun x=>x.cps.toList).map tx) us
  | _,_,.nil=>.nil
  | _,_,.cons x t h=>.cons ⟨t,rfl⟩ (strs_of h)
theorem pw_of_sortedS:∀ {ss:List Str},sortedS ss=true→(ss.map fun x=>x.cps.toList).Pairwise (fun a b=>leT a b=true):=by
  have ris:∀ (p:Str) (l:List Str),risingS p l=true→((p :: l).map fun x=>x.cps.toList).Pairwise (fun a b=>leT a b=true):=by
    intro p l
    induction l generalizing p with
    | nil=>intro _;simp
    | cons x r ih=>
      intro h
      have h':(!ltCps x.cps.toList p.cps.toList&&risingS x r)=true:=h
      rw[Bool.and_eq_true,ltCps_eq] at h'
      have q:=ih x h'.2
      rw[List.map_cons,List.pairwise_cons]
      refine ⟨fun b hb=>?_,q⟩
      have hx:leT p.cps.toList x.cps.toList=true:=h'.1
      rw[List.map_cons] at hb q
      rcases List.mem_cons.mp hb with z | z
      · rw[z];exact hx
      · exact leT_iff.mpr (List.le_trans (leT_iff.mp hx) (leT_iff.mp ((List.pairwise_cons.mp q).1 b z)))
  intro ss h
  cases ss with
  | nil=>simp
  | cons x r=>exact ris x r h
theorem strs_back {us:List Value} {ls:List (List Nat)} (r:Vals (ls.map tx) us):StrsAre us (ls.map fun l=>(⟨l.toArray⟩:Str)):=strsAre_tx r
theorem back_map (ls:List (List Nat)):(ls.map fun l=>(⟨l.toArray⟩:Str)).map (fun x=>x.cps.toList)=ls:=by
  rw[List.map_map]
  conv=>rhs;rw[←List.map_id ls]
  apply List.map_congr_left
  intro l _
  simp
section
variable {prog:Program} {w:World} {A:Around} {E:Value→Shared→Prop} {s:Shared}
theorem sort_tail {vs:List Value} {ms:List (List Nat)} {Q:Value→Shared→Prop} (hv:Vals (ms.map tx) vs) (h64:ms.length < 64)
    (h:∀ (h':Heap) (us:List Value) (e:Nat),(∀ b o,s.heap.get? b=some o→h'.get? b=some o)→h'.get? s.heap.objs.size=some { cls:=.type "list",data:=.seq us.toArray e }→Vals ((sortT ms).map tx) us→Q (.ref s.heap.objs.size) { s with heap:=h' }):
    wpAny (model prog w) A (do let l ←newList vs;let _ ←holding [l] (call (.builtin "list.sort") [l] []);ret l) (fun fin s'=>∃ v,fin=Fin.done (Flow.ret v)∧Q v s') E s:=by
  have hS:=strs_back hv
  have hlen:vs.length < 64:=by rw[←hv.length,List.length_map];exact h64
  refine wpAny_bind (wpAny_newList ?_ ?_)
  · have hoL:(s.heap.push (seqObj "list" vs.toArray 0)).get? s.heap.objs.size=some (seqObj "list" vs.toArray 0):=Heap.get?_push_size _ rfl
    refine wpAny_bind (wpAny_holding (wpAny_call_entry slot_list_sort ⟨_,hoL,rfl⟩ entry_list_sort (list_sort_treeK strKind_oneLt hoL hS.keysOf (fun v₁ v₂ rest e=>keyKind_strs (by rw[←e];exact hS)) hlen fun st' a1 a2=>⟨_,rfl,?_⟩) (args_list_sort _)))
    obtain ⟨ss',b1,b2,b3⟩:=sorted_out_str hS a1 a2
    obtain ⟨e,he⟩:=sortedHeap_at (out:=(arrOf st').map (·.2)) hoL
    refine wpAny_pure ⟨_,rfl,h _ ((arrOf st').map (·.2)).toList e (fun b o q=>?_) ?_ ?_⟩
    · have hlt:=Heap.lt_size q
      have hlt':b < (s.heap.push (seqObj "list" vs.toArray 0)).objs.size:=by rw[Heap.size_push];exact Nat.lt_succ_of_lt hlt
      exact (sortedHeap_old (Nat.ne_of_lt hlt) hlt').trans (Heap.get?_push_of_some _ q)
    · have q:((arrOf st').map (·.2)).toList.toArray=(arrOf st').map (·.2):=Array.toArray_toList
      rw[q];exact he
    · have p1:(ss'.map fun x=>x.cps.toList).Perm ms:=by
        have:=b2.map (fun x:Str=>x.cps.toList)
        rwa [back_map] at this
      have e1:=sortT_uniq p1 (pw_of_sortedS b3)
      rw[←e1]
      exact strs_of b1
  · exact Nat.le_trans (Nat.le_of_lt hlen) (by rw[sizeLine_eq];decide)
theorem sorted_set {S:Addr} {ls:List (List Nat)} {Q:Value→Shared→Prop} (hh:A.handled=none) (hS:TxSet prog w s.heap S ls (!byTxt w)) (h64:ls.length < 64)
    (h:∀ (s':Shared) (a:Addr) (us:List Value) (e:Nat),s.heap.get? a=none→(∀ b o,s.heap.get? b=some o→s'.heap.get? b=some o)→s'.gens=s.gens→s'.os=s.os→s'.heap.get? a=some { cls:=.type "list",data:=.seq us.toArray e }→Vals ((sortT ls).map tx) us→Q (.ref a) s'):
    wpAny (model prog w) A (call (.builtin "sorted") [.ref S]) Q E s:=by
  refine Calls.call_function_entry kind_sorted plain_sorted entry_sorted (args_sorted1 _) ?_
  unfold Builtin.«sorted»
  refine wpAny_bind (m:=checkCount "sorted" 1 1 _) (wpAny_pure ?_)
  refine wpAny_bind (collect_set (by first | exact hh | simpa using hh) hS (Nat.le_trans (Nat.le_of_lt h64) (by rw[sizeLine_eq];decide)) fun s' vs ms k1 hg ho hp hv=>?_)
  have hl:ms.length < 64:=by rw[hp.length_eq];exact h64
  refine sort_tail hv hl fun h' us e k2 he r=>?_
  rw[sortT_congr hp] at r
  exact h _ _ us e (by
    cases q:s.heap.get? s'.heap.objs.size with
    | none=>rfl
    | some o=>exact absurd (Heap.lt_size (k1 _ _ q)) (Nat.lt_irrefl _)) (fun b o q=>k2 b o (k1 b o q)) hg ho he r
end
end L2
set_option Elab.async false
set_option linter.all false
set_option maxRecDepth 100000
namespace L2
open PySem PySem.Spec PyProof.Rows
structure Fly (B:Heap) (l:List Env) (e:Addr) (C:Value) (d:Option Addr) (fl:Value) (h:Heap):Prop where
  st:B.StaysIn h
  ne:B.get? e=none
  fr:h.FunFrames B l
  tr:∃ oe vs T oT ts,h.get? e=some oe∧oe.cls=C∧oe.dict=d∧oe.data=.fields vs∧vs[1]?=some (.ref T)∧B.get? T=none∧T≠e∧h.get? T=some oT∧oT.data=.fields ts∧ts[3]?=some fl
theorem dict_map (o:Obj) (f:Array Value→Array Value):(o.mapFields f).dict=o.dict:=by
  obtain ⟨c,d,dt,sl⟩:=o
  cases dt <;> rfl
section
variable {M:Model} {A:Around} {E:Value→Shared→Prop} {s:Shared} {B:Heap} {env:Env} {outer:List Env} {L e:Addr} {C:Value} {d:Option Addr} {Q:Unit→Shared→Prop}
theorem note_core {oe:Obj} {vs:Array Value} {head:Value} {hadNext:Bool} (hfr:A.frames=some (env :: outer)) (hl:s.heap.FunFrames B (env :: outer)) (hf:env.frame=some L) (he:s.heap.get? e=some oe) (hkb:B.StaysIn s.heap) (hen:B.get? e=none)
    (hc:oe.cls=C) (hdd:oe.dict=d) (hd:oe.data=.fields vs) (hsz:1 < vs.size) (h:∀ h',Fly B (env :: outer) e C d (rawInt L) h'→s.heap.UpToSlots h'→Q () { s with heap:=h' }):
    wpAny M A (do let a ←frameOf env;let pl ←entryPlaceOf L hadNext;let b ←EntryCells.newEntry head a .none (rawInt L) .none pl;setField (.ref e) 1 b) Q E s:=by
  have hene:e∉(env :: outer).filterMap (·.frame):=fun hm=>by
    obtain ⟨_,o,ho,hnf⟩:=hl.mem hm
    rw[he] at ho
    cases ho
    exact hnf vs hd
  refine wpAny_bind (wpAny_frameOf_fun hfr hl hf fun h1 hs=>wpAny_bind (wpAny_entryPlaceOf fun pl hpl=>?_))
  unfold EntryCells.newEntry newFields
  refine wpAny_bind (wpAny_newObj_type ?_ (hpl.sizeOk5 _ _ _ _ _))
  have e1:h1.get? e=some oe:=(hs.2.1 e hene).trans he
  have k1:B.StaysIn h1:=fun b o hbo=>(hs.2.1 b fun hm=>by rw[(hl.mem hm).1] at hbo;cases hbo).trans (hkb b o hbo)
  generalize eT:({ cls:=.type "traceback",dict:=none,data:=.fields ([head,.ref L,.none,rawInt L,.none]++(if pl.isEmpty then List.replicate 6 Value.none else pl)).toArray }:Obj)=oT
  have e2:(h1.push oT).get? e=some oe:=Heap.get?_push_of_some _ e1
  refine wpAny_setField e2 hd hsz ?_
  have nT:h1.objs.size≠e:=Nat.ne_of_gt (Heap.lt_size e1)
  have d3:=Obj.data_mapFields hd (·.setIfInBounds 1 (Value.ref h1.objs.size))
  have e3:=Heap.get?_update_self (Obj.mapFields (·.setIfInBounds 1 (Value.ref h1.objs.size))) e2 (Obj.isFreed_of_fields d3)
  have t3:((h1.push oT).update e (Obj.mapFields (·.setIfInBounds 1 (Value.ref h1.objs.size)))).get? h1.objs.size=some oT:=by
    rw[Heap.get?_update_other _ _ (Ne.symm nT)]
    refine Heap.get?_push_size _ ?_
    rw[←eT];rfl
  have keep:∀ b o,b≠e→h1.get? b=some o→((h1.push oT).update e (Obj.mapFields (·.setIfInBounds 1 (Value.ref h1.objs.size)))).get? b=some o:=fun b o hb q=>by
    rw[Heap.get?_update_other _ _ (Ne.symm hb)]
    exact Heap.get?_push_of_some _ q
  have nrec:∀ b o,s.heap.get? b=some o→(∀ vs,o.data≠.fields vs)→b≠e:=fun b o q n z=>by
    rw[z,he] at q
    cases q
    exact n vs hd
  have dT:oT.data=.fields ([head,.ref L,.none,rawInt L,.none]++(if pl.isEmpty then List.replicate 6 Value.none else pl)).toArray:=by rw[←eT]
  refine h _ ⟨fun b o q=>keep b o (fun z=>by rw[z,hen] at q;cases q) (k1 b o q),hen,hl.of_keeps fun b o q n=>?_,_,_,h1.objs.size,oT,_,e3,(Obj.cls_mapFields _ _).trans hc,(dict_map _ _).trans hdd,d3,?_,k1.fresh,nT,t3,dT,?_⟩ fun b o q n=>?_
  · obtain ⟨sl,q2⟩:=hs.2.2 b o q
    exact ⟨_,keep b _ (nrec b o q n) q2,rfl⟩
  · simp [hsz]
  · simp
  · obtain ⟨sl,q2⟩:=hs.2.2 b o q
    exact ⟨sl,keep b _ (nrec b o q n) q2⟩
theorem note_first {oe:Obj} {vs:Array Value} (hfr:A.frames=some (env :: outer)) (hl:s.heap.FunFrames B (env :: outer)) (hf:env.frame=some L) (he:s.heap.get? e=some oe) (hkb:B.StaysIn s.heap) (hen:B.get? e=none)
    (hc:oe.cls=C) (hdd:oe.dict=d) (hd:oe.data=.fields vs) (h1:vs[1]?=some .none) (h:∀ h',Fly B (env :: outer) e C d (rawInt L) h'→s.heap.UpToSlots h'→Q () { s with heap:=h' }):wpAny M A (noteFrame (.ref e) env) Q E s:=by
  unfold noteFrame
  simp only[hf]
  refine wpAny_bind (wpAny_field he hd h1 ?_)
  rw[if_neg (by decide)]
  exact note_core hfr hl hf he hkb hen hc hdd hd (Array.getElem?_eq_some_iff.mp h1).1 h
theorem note_next (hfr:A.frames=some (env :: outer)) (hf:env.frame=some L) (x:Fly B (env :: outer) e C d .none s.heap) (h:∀ h',Fly B (env :: outer) e C d (rawInt L) h'→s.heap.UpToSlots h'→Q () { s with heap:=h' }):
    wpAny M A (noteFrame (.ref e) env) Q E s:=by
  obtain ⟨hkb,hen,hl,oe,vs,T,oT,ts,he,hc,hdd,hd,h1,hnT,hTe,hT,hdT,h3⟩:=x
  unfold noteFrame
  simp only[hf]
  refine wpAny_bind (wpAny_field he hd h1 ?_)
  rw[if_pos (show (Value.ref T != Value.none)=true from by simp)]
  refine wpAny_bind (wpAny_field hT hdT h3 ?_)
  rw[if_neg (show ¬ ((Value.none == rawInt L)=true) from by simp [rawInt])]
  refine wpAny_bind (wpAny_setField hT hdT (Array.getElem?_eq_some_iff.mp h3).1 ?_)
  have oth:∀ b,b≠T→(s.heap.update T (Obj.mapFields (·.setIfInBounds 3 Value.none))).get? b=s.heap.get? b:=fun b hb=>Heap.get?_update_other _ _ (Ne.symm hb)
  have nrec:∀ b o,s.heap.get? b=some o→(∀ vs,o.data≠.fields vs)→b≠T:=fun b o q n z=>by
    rw[z,hT] at q
    cases q
    exact n ts hdT
  refine note_core (s:={ s with heap:=s.heap.update T (Obj.mapFields (·.setIfInBounds 3 Value.none)) }) hfr (hl.of_keeps fun b o q n=>⟨o,(oth b (nrec b o q n)).trans q,rfl⟩) hf ((oth e (Ne.symm hTe)).trans he)
    (fun b o q=>(oth b fun z=>by rw[z,hnT] at q;cases q).trans (hkb b o q)) hen hc hdd hd (Array.getElem?_eq_some_iff.mp h1).1 fun h' y u=>h h' y fun b o q n=>u b o ((oth b (nrec b o q n)).trans q) n
theorem flight_none {l:List Env} {fl:Value} (x:Fly B l e C d fl s.heap) (h:∀ h',Fly B l e C d .none h'→s.heap.UpToSlots h'→Q () { s with heap:=h' }):wpAny M A (setFlight (.ref e) none) Q E s:=by
  obtain ⟨hkb,hen,hl,oe,vs,T,oT,ts,he,hc,hdd,hd,h1,hnT,hTe,hT,hdT,h3⟩:=x
  have hz:3 < ts.size:=(Array.getElem?_eq_some_iff.mp h3).1
  have oth:∀ b,b≠T→(s.heap.update T (Obj.mapFields (·.setIfInBounds 3 ((none:Option Addr).elim Value.none fun f=>rawInt f)))).get? b=s.heap.get? b:=fun b hb=>Heap.get?_update_other _ _ (Ne.symm hb)
  have nrec:∀ b o,s.heap.get? b=some o→(∀ vs,o.data≠.fields vs)→b≠T:=fun b o q n z=>by
    rw[z,hT] at q
    cases q
    exact n ts hdT
  unfold setFlight
  refine wpAny_bind (wpAny_field he hd h1 ?_)
  rw[if_pos (show (Value.ref T != Value.none)=true from by simp)]
  refine wpAny_setField hT hdT hz (h _ ⟨fun b o q=>(oth b fun z=>by rw[z,hnT] at q;cases q).trans (hkb b o q),hen,hl.of_keeps fun b o q n=>⟨o,(oth b (nrec b o q n)).trans q,rfl⟩,oe,vs,T,_,_,(oth e (Ne.symm hTe)).trans he,hc,hdd,hd,h1,hnT,hTe,
    Heap.get?_update_self _ hT (Obj.isFreed_of_fields (Obj.data_mapFields hdT _)),Obj.data_mapFields hdT _,by simp [hz]⟩ fun b o q n=>⟨o.slots,(oth b (nrec b o q n)).trans q⟩)
theorem Fly.pop {h:Heap} {fl:Value} (x:Fly B (env :: outer) e C d fl h):Fly B outer e C d fl h:=⟨x.st,x.ne,x.fr.2.2,x.tr⟩
theorem leave_first {oe:Obj} {vs:Array Value} (hfr:A.frames=some (env :: outer)) (hl:s.heap.FunFrames B (env :: outer)) (hf:env.frame=some L) (he:s.heap.get? e=some oe) (hkb:B.StaysIn s.heap) (hen:B.get? e=none)
    (hc:oe.cls=C) (hdd:oe.dict=d) (hd:oe.data=.fields vs) (h1:vs[1]?=some .none) (h:∀ h',Fly B outer e C d .none h'→s.heap.UpToSlots h'→Q () { s with heap:=h' }):wpAny M A (leaving env (.ref e)) Q E s:=by
  unfold leaving
  refine wpAny_bind (note_first hfr hl hf he hkb hen hc hdd hd h1 fun h1 x1 u1=>flight_none (s:={ s with heap:=h1 }) x1 fun h2 x2 u2=>h h2 x2.pop (u1.trans u2))
theorem leave_next (hfr:A.frames=some (env :: outer)) (hf:env.frame=some L) (x:Fly B (env :: outer) e C d .none s.heap) (h:∀ h',Fly B outer e C d .none h'→s.heap.UpToSlots h'→Q () { s with heap:=h' }):wpAny M A (leaving env (.ref e)) Q E s:=by
  unfold leaving
  refine wpAny_bind (note_next hfr hf x fun h1 x1 u1=>flight_none (s:={ s with heap:=h1 }) x1 fun h2 x2 u2=>h h2 x2.pop (u1.trans u2))
end
end L2
set_option Elab.async false
set_option linter.all false
set_option maxRecDepth 100000
namespace L2
open PySem PySem.Spec PyProof.Rows
open PySem.W (Frag findIn typeIn mroIn clsIn InstAt Looks)
def xr (a C:Addr) (d:Option Addr):HO:=.ext fun h=>∃ (o:Obj) (vs:Array Value),h.get? a=some o∧o.cls=.ref C∧o.dict=d∧o.data=.fields vs
theorem xr_ok {P:Program} {w:World} {H:Hp} {h:Heap} {e C:Addr} {d:Option Addr} {o:Obj} {vs:Array Value} (h1:h.get? e=some o) (h2:o.cls=.ref C) (h3:o.dict=d) (h4:o.data=.fields vs):ObjOk P w H h e (xr e C d):=
  ⟨⟨o,vs,h1,h2,h3,h4⟩,⟨o,h1⟩,fun g1 g2 ⟨o',vs',q1,q⟩ k=>⟨o',vs',k _ q1,q⟩⟩
inductive XAny (H:Hp) (e C:Addr):List (Str×V)→Prop where
  | un {fs:List (Str×V)}:XAt H e C fs→XAny H e C fs
  | bare:H e=some (xr e C none)→XAny H e C []
  | full {d:Addr} {fs:List (Str×V)}:H e=some (xr e C (some d))→H d=some (xdO d fs)→d≠e→XAny H e C fs
theorem XAny.same {H H':Hp} {e C:Addr} {fs:List (Str×V)} (x:XAny H e C fs) (s:Same H H'):XAny H' e C fs:=by
  cases x with
  | un h=>exact .un (h.same s)
  | bare h=>exact .bare (s _ _ h)
  | full h1 h2 h3=>exact .full (s _ _ h1) (s _ _ h2) h3
section
variable {M:Model} {A:Around} {E:Value→Shared→Prop} {s:Shared} {env:Env}
theorem raise_obj {x:Sem Value} {Q:Flow→Shared→Prop} (hh:A.handled=none)
    (h:wpAny M A x (fun v s₁=>∃ (e t:Addr) (od:Option Addr) (sl:Array (Option Value)) (C:Addr) (nm q:Str) (N:Addr) (bs bm:List Value) (hdct:Bool) (sn:List Str) (sub:List Value) (ab:Bool) (col:Option Bool) (dd:Option Addr) (k0 k1 k2 k3 k5:Option Value) (newId:String),v=.ref e∧bm.contains (.type "BaseException")=true ∧
      s₁.heap.get? C=some (excClassObj nm q C N bs bm hdct sn sub ab col dd k0 k1 k2 k3 k5 newId)∧s₁.heap.get? e=some { cls:=.ref C,dict:=od,data:=.fields #[.ref t,.none,.none,.none,.bool false,.none],slots:=sl }∧E (.ref e) s₁) E s):wpAny M A (raiseStmt env (some x) none) Q E s:=by
  unfold raiseStmt
  refine wpAny_bind (wpAny_mono h (fun v s₁ h₁=>?_) fun _ _ x=>x)
  obtain ⟨e,t,od,sl,C,nm,q,N,bs,bm,hdct,sn,sub,ab,col,dd,k0,k1,k2,k3,k5,newId,rfl,hbase,hC,he,hE⟩:=h₁
  have hcB:(Value.ref C :: bm).contains (.type "BaseException")=true:=by rw[List.contains_cons,hbase,Bool.or_true]
  obtain ⟨hp,g,d,tk,os⟩:=s₁
  repeat (first | with_reducible refine wpAny_loadPart_at he ?_ | with_reducible refine wpAny_loadPart_at hC ?_ | (with_reducible refine wpAny_isSubtype_exc hC ?_;rw[hcB]) | wp_step)
  exact wpAny_raiseNew_none hh hE
end
def CXr (P:Program) (w:World):CXT:=fun outer H s E ev s'=>∃ (e C:Addr) (d:Option Addr) (H':Hp) (h1 B:Heap),ev=.ref e∧s'.os=s.os∧AllBare s'.gens∧Un (frs outer) [] H H' s.heap h1∧HOk P w H' h1∧H' e=some (xr e C d) ∧
  (∀ b o,h1.get? b=some o→b≠e→((∃ u,H' b=some u)∨((∃ o',s.heap.get? b=some o')∧b∉frs outer))→B.get? b=some o)∧Fly B outer e (.ref C) d .none s'.heap∧h1.UpToSlots s'.heap∧E (.ref C) (some e) H'
def Raises (X:Cx) (Ex:XK):Prop:=∀ (pins:List (Addr×Obj)) (σ:St) (H:Hp) (s:Shared) (e C:Addr) (d:Option Addr),Inv X pins σ H s→H e=some (xo e C d)→Ex (.ref C) (some e) (upd H e (xr e C d))→X.xe (.ref e) s
theorem Inv.raised {X:Cx} {pins:List (Addr×Obj)} {σ:St} {H:Hp} {s:Shared} {e C:Addr} {d:Option Addr} (I:Inv X pins σ H s) (h:H e=some (xo e C d)):Inv X pins σ (upd H e (xr e C d)) s:=by
  obtain ⟨o,t,h1,h2,h3,h4⟩:=xo_obj I h
  exact I.write (x:=e) (e:=e) (o:=xr e C d) (h':=s.heap) (t':=s.toks) (by rw[h];exact trivial) (.inl rfl) (fun b u _ q=>q) ⟨o,h1⟩ (xr_ok h1 h2 h3 h4)
theorem hide_of {h:Heap} {as:List Addr} {b:Addr} {o:Obj} (e:(PySem.W.hideAll h as).get? b=some o):h.get? b=some o:=PySem.W.of_hideAll _ e
theorem cx_raises {P:Program} {w:World} {K:Frag} {mg:Str→Option Value} {base:Heap} {N:List Str} {qual:Str} {scope:Scope} {f:Addr} {cd:Value} {A:Around} {outer:List Env} {s0:Shared} {H0:Hp} {E:XK}:
    Raises (cxOf (CXr P w) P w K mg base N qual scope f cd A outer s0 H0 E) E:=by
  intro pins σ H s e C d I he hE
  obtain ⟨o,t,h1,h2,h3,h4⟩:=xo_obj I he
  have J:=I.raised he
  generalize hX:cxOf (CXr P w) P w K mg base N qual scope f cd A outer s0 H0 E=X at I J ⊢
  have eA:X.A=A.deeper (envOfC qual scope s0.heap.objs.size f cd):=by rw[←hX];rfl
  have eS:X.stack=envOfC qual scope s0.heap.objs.size f cd :: outer:=by rw[←hX];rfl
  have eF:X.fs=frs outer:=by rw[←hX];rfl
  have e0:X.s₀=s0:=by rw[←hX];rfl
  have eH:X.H₀=H0:=by rw[←hX];rfl
  have eX:X.ex=[]:=by rw[←hX];rfl
  have eL:X.env=envOfC qual scope s0.heap.objs.size f cd:=by rw[←hX];rfl
  have ePr:X.prog=P:=by rw[←hX];rfl
  have eW:X.w=w:=by rw[←hX];rfl
  have hxe:∀ ev s',wpAny (model P w) (A.deeper (envOfC qual scope s0.heap.objs.size f cd)) (leaving (envOfC qual scope s0.heap.objs.size f cd) ev) (fun _ s''=>CXr P w outer H0 s0 E ev s'') (fun e' s''=>CXr P w outer H0 s0 E e' s'') s'→X.xe ev s':=by
    intro ev s' z;rw[←hX];exact z
  refine hxe _ _ ?_
  have hfr:(A.deeper (envOfC qual scope s0.heap.objs.size f cd)).frames=some (envOfC qual scope s0.heap.objs.size f cd :: outer):=by rw[←eA,←eS];exact I.ok.frames
  have stk:s.heap.FunFrames X.base X.stack:=I.stack
  have hin:∀ env∈X.stack,∀ a,env.frame=some a→a∈frs X.stack++[e]:=fun env henv a ha=>List.mem_append_left _ (List.mem_filterMap.mpr ⟨env,henv,ha⟩)
  have ff:=PySem.W.funFrames_hide (as:=frs X.stack++[e]) stk hin
  rw[eS] at ff
  have stays:(PySem.W.hideAll s.heap (frs (envOfC qual scope s0.heap.objs.size f cd :: outer)++[e])).StaysIn s.heap:=fun b o q=>hide_of q
  refine leave_first (B:=PySem.W.hideAll s.heap (frs (envOfC qual scope s0.heap.objs.size f cd :: outer)++[e])) (L:=s0.heap.objs.size) hfr ff rfl h1 stays (PySem.W.hideAll_none _ (by simp)) h2 h3 h4 (by simp) fun h' fl up=>?_
  have os:s.os=s0.os:=by rw[←e0];exact I.os
  have un:Un (frs outer) [] H0 (upd H e (xr e C d)) s0.heap s.heap:=by
    have:=J.base
    rwa [eF,eX,eH,e0] at this
  have ok:HOk P w (upd H e (xr e C d)) s.heap:=by
    have:=J.hok
    rwa [ePr,eW] at this
  refine ⟨e,C,d,upd H e (xr e C d),s.heap,_,rfl,os,I.bare,un,ok,upd_same,fun b o hb hne hc=>?_,fl,up,hE⟩
  refine PySem.W.hideAll_get _ hb fun z=>?_
  rcases List.mem_append.mp z with z | z
  · have z':b∈frs X.stack:=by rw[eS];exact z
    rcases hc with ⟨u,hu⟩ | ⟨⟨o',ho'⟩,hn⟩
    · rw[J.stkFree b z'] at hu;cases hu
    · rcases List.mem_cons.mp (I.stkSub b z') with q | q
      · rw[q,eL] at ho'
        exact absurd (Heap.lt_size ho') (Nat.lt_irrefl _)
      · rw[eF] at q;exact hn q
  · exact hne (by simpa using z)
def tRaise (K:Frag) (Ex:XK) (te:TE):TS:=fun _ σ H=>te σ H fun v H1=>∃ e C d,v=.ref e∧H1 e=some (xo e C d)∧Xm K C∧Ex (.ref C) (some e) (upd H1 e (xr e C d))
theorem ps_raise {X:Cx} {Ex:XK} {e:Expr} {te:TE} {pos:Pos} (hR:Raises X Ex) (hc:X.calm=true) (he:PE X e te):PS X (.Raise (some e) none pos) (tRaise X.K Ex te):=by
  intro pins s σ H D I h
  rw[arm_exec_Raise]
  show wpAny _ X.A (do standAt pos;raiseStmt X.env (some (do let v ←eval e X.env;standAt pos;pure v)) none) _ _ s
  refine wpAny_bind (wpAny_standAt ?_)
  refine raise_obj (I.ok.hd hc) (wpAny_bind (thn (he pins s σ H _ I h) fun v s1 ⟨x,H1,I1,r1,a,C,d,ex,hx,m,q⟩=>wpAny_bind (wpAny_standAt (wpAny_pure ?_))))
  subst ex
  obtain rfl:v=Value.ref a:=r1
  obtain ⟨o,t,h1,h2,h3,h4⟩:=xo_obj I1 hx
  obtain ⟨nm,q',N,bs,bm,hdct,sn,sub,ab,col,dd,k0,k1,k2,k3,k5,hl,hxm⟩:=m.parts
  obtain ⟨oc,odi,oda,osl⟩:=o
  dsimp only at h2 h3 h4
  subst h2 h3 h4
  have hb:(Value.ref C :: bm).contains (.type "BaseException")=true:=xmro_has (by decide +kernel) hxm
  rw[List.contains_cons] at hb
  refine ⟨a,t,_,_,C,nm,q',N,bs,bm,hdct,sn,sub,ab,col,dd,k0,k1,k2,k3,k5,_,rfl,?_,I1.kIn _ _ hl,h1,hR pins σ H1 s1 a C _ I1 hx q⟩
  have z:(Value.type "BaseException" == Value.ref C)=false:=rfl
  rw[z,Bool.false_or] at hb
  exact hb
section
variable {P:Program} {w:World} {K:Frag} {mg:Str→Option Value} {base:Heap}
theorem Fun.okX {x qual:Str} {st:Stmt} {f:Addr} {fd:FuncData} {N ps:List Str} {k:Nat} {sp:Sp} (F:Fun K x qual st f fd) (S:FnScope N ps (defScope st)) (len:∀ vs H Q E,sp vs H Q E→vs.length=ps.length)
    (hbody:∀ (cdv:Value) (A:Around) (outer:List Env) (s:Shared) (H:Hp) (vs:List V) (Q:VK) (E:XK),Room k (A.deeper (envOfC qual (defScope st) s.heap.objs.size f cdv))→sp vs H Q E →
      ∃ t,PSs (cxOf (CXr P w) P w K mg base N qual (defScope st) f cdv A outer s H E) (defBody st) t∧t { nx:=fun _ H'=>Q .non H',rt:=Q } (start N vs) H):FnOk P w K mg base (CXr P w) (k + 1) f fd ps sp:=by
  obtain ⟨oc,od,kV,doc,pm,an,cdv,ct,osl,rfl,lk,hcd⟩:=F.ex
  exact fn_of lk hcd S len fun A outer s H vs Q E hr hsp=>hbody cdv A outer s H vs Q E hr hsp
end
end L2
set_option Elab.async false
set_option linter.all false
set_option maxRecDepth 100000
namespace L2
open PySem PySem.Spec PyProof.Rows
open PySem.W (Frag findIn typeIn mroIn clsIn InstAt Looks)
abbrev TX:=St→Hp→VK→XK→Prop
abbrev TSx:=Ends→(St→XK)→St→Hp→Prop
section
variable {X:Cx} {CX:CXT} {k:Nat} {f C:Addr} {fd:FuncData} {ps:List Str} {sp:Sp} {dvs:List V} {ds:List Value} {x m:Str} {p pos apos:Pos} {e o:Expr} {es:List Expr} {ta:TE} {t:TA}
def tCallx (sp:Sp) (dvs:List V) (t:TA):TX:=fun σ H Q E=>t σ H fun vs H1=>sp (vs++dvs) H1 Q E
def sSetx (i:Nat) (te:TX):TSx:=fun D Ex σ H=>te σ H (fun y H1=>D.nx (σ.set i (some y)) H1) (Ex σ)
def sExprx (te:TX):TSx:=fun D Ex σ H=>te σ H (fun _ H1=>D.nx σ H1) (Ex σ)
def sIfx (c:TT) (t u:TSx):TSx:=fun D Ex σ H=>c σ H fun b H1=>if b=true then t D Ex σ H1 else u D Ex σ H1
end
section
variable {X:Cx} {pins:List (Addr×Obj)} {σ:St} {H H':Hp} {s s1:Shared} {e C:Addr} {d:Option Addr} {h1 h5 B:Heap}
end
def sux (X:Cx) (e:Addr):Cx:={ X with A:=X.A.mark (some (.ref e)),calm:=false,xe:=fun _ _=>False }
section
variable {X:Cx} {pins:List (Addr×Obj)} {σ:St} {H:Hp} {s:Shared} {e:Addr}
theorem Inv.sux (I:Inv X pins σ H s) (e:Addr):Inv (L2.sux X e) pins σ H s:=
  ⟨⟨I.ok.mod,I.ok.kind,I.ok.glob,I.ok.blt,I.ok.above,I.ok.inj,I.ok.has,I.ok.cab,(fun z=>by cases z),I.ok.frames,I.ok.stk,I.ok.exf,I.ok.bs,I.ok.bsz,I.ok.noex,I.ok.exfs,I.ok.funs,I.ok.frf⟩,I.os,I.bare,I.base,I.loc,I.cell,I.free,I.freeC,I.pin,I.hok,I.len⟩
end
abbrev TH:=Addr→Addr→Ends→St→Hp→Prop
def unE (i:Nat) (D:Ends):Ends:={ nx:=fun σ H=>D.nx (σ.set i none) H,rt:=D.rt,bk:=fun σ H=>D.bk (σ.set i none) H,ct:=fun σ H=>D.ct (σ.set i none) H }
def hAs (K:Frag) (C0:Addr) (i:Nat) (ts:TS) (tr:TH):TH:=fun e C D σ H=>∃ b,PySem.W.exmOne K (.ref C) (.ref C0)=some b∧if b=true then ts (unE i D) (σ.set i (some (.ref e))) H else tr e C D σ H
def hNone:TH:=fun _ _ _ _ _=>False
section
variable {X:Cx} {x n:Str} {np pos:Pos} {b₀:Stmt} {suite:List Stmt} {rest:List ExceptHandler} {ts:TS} {tr:TH} {C0:Addr} {i:Nat}
def hPlain (K:Frag) (C0:Addr) (ts:TS) (tr:TH):TH:=fun e C D σ H=>∃ b,PySem.W.exmOne K (.ref C) (.ref C0)=some b∧if b=true then ts D σ H else tr e C D σ H
def tTry (tb:TSx) (th:TH):TS:=fun D σ H=>tb D (fun σ' cls oe H'=>∃ e C,cls=.ref C∧oe=some e∧th e C D σ' H') σ H
end
end L2
set_option Elab.async false
set_option linter.all false
set_option maxRecDepth 100000
namespace L2
open PySem PySem.Spec PyProof.Rows
open PySem.W (Frag findIn specialIn typeIn mroIn clsIn subIn kitOne kitCls InstAt Looks)
section
variable {X:Cx} {pins:List (Addr×Obj)} {σ:St} {H:Hp} {s:Shared} {e C:Addr} {fs:List (Str×V)} {f:Str} {v:V} {A:Around} {E:Value→Shared→Prop}
theorem xr_obj {d:Option Addr} (I:Inv X pins σ H s) (h:H e=some (xr e C d)):∃ (o:Obj) (vs:Array Value),s.heap.get? e=some o∧o.cls=.ref C∧o.dict=d∧o.data=.fields vs:=(I.hok e _ h).1
theorem XAny.inst (I:Inv X pins σ H s) (x:XAny H e C fs):∃ (ox:Obj) (od:Option Obj),InstAt s.heap e ox C od∧∀ name,∃ r,(match od with | some o=>PySem.W.lookIn name o | none=>some none)=some r∧RelO (fs.lookup name) r:=by
  cases x with
  | un h=>exact h.inst I
  | bare h=>
    obtain ⟨o,vs,h1,h2,h3,h4⟩:=xr_obj I h
    exact ⟨o,none,⟨h1,h2,by unfold PySem.W.notCls;rw[h4],by rw[h3];trivial⟩,fun name=>⟨none,rfl,by trivial⟩⟩
  | @full d _ h h' hne=>
    obtain ⟨o,vs,h1,h2,h3,h4⟩:=xr_obj I h
    obtain ⟨⟨_,mA,hn,hr,_⟩,_⟩:=I.hok d _ h'
    obtain ⟨od,hod,hl⟩:=lookIn_ns hn
    exact ⟨o,some od,⟨h1,h2,by unfold PySem.W.notCls;rw[h4],by rw[h3];exact hod⟩,fun name=>⟨mA name,hl name,hr name⟩⟩
end
def tXFldR (K:Frag) (ta:TE) (f:Str):TE:=fun σ H Q=>ta σ H fun x H1=>∃ e C fs v,x=.ref e∧XAny H1 e C fs∧Xc K C∧NoAttr K C f∧fs.lookup f=some v∧Q v H1
inductive TyR (K:Frag) (H:Hp):V→Value→Prop where
  | ty {x:V} {t:Value} (h:TyX K H x t):TyR K H x t
  | exc {e C:Addr} {fs:List (Str×V)} (x:XAny H e C fs) (i:Xi K C):TyR K H (.ref e) (.ref C)
theorem call_isinstR {X:Cx} {K:Frag} (hK:X.K=K):CallR X (.builtin "isinstance") (fun xs H Q=>∃ x c t k b,xs=[x,c]∧clsV c=some k∧TyR K H x t∧kitOne K t k=some b∧Q (.bl b) H):=by
  subst hK
  rintro pins s σ H xs us Q I r ⟨x,c,t,k,b,rfl,hk,ty,e,q⟩
  cases ty with
  | ty h=>exact call_isinst pins s σ H _ us Q I r ⟨x,c,t,k,b,rfl,hk,h,e,q⟩
  | exc xa i=>
    obtain ⟨u,v,rfl,ru,rv⟩:=r.two
    have hv:v=k:=by
      cases c with
      | ref a=>cases hk;exact rv
      | ty n=>cases hk;exact rv
      | _=>cases hk
    subst hv
    cases ru
    obtain ⟨ox,od,J,_⟩:=xa.inst I
    exact PySem.W.kia_one (kitx_exc i) I.kIn J e (fun z=>nomatch z) fun tk=>⟨.bl b,H,I.tok _,rfl,q⟩
end L2
set_option Elab.async false
set_option linter.all false
set_option maxRecDepth 100000
namespace L2
open PySem PySem.Spec PyProof.Rows
open PySem.W (Frag)
theorem ObjOk.there {P:Program} {w:World} {H:Hp} {h:Heap} {a:Addr}:∀ {o:HO},ObjOk P w H h a o→∃ u,h.get? a=some u
  | .lst _,x=>by obtain ⟨_,_,_,_,e⟩:=x;exact ⟨_,e⟩
  | .tup _,x=>by obtain ⟨_,_,_,ob,e,_⟩:=x;exact ⟨_,e⟩
  | .dK _,x=>by obtain ⟨_,_,_,_,ob,_,_,e,_⟩:=x;exact ⟨_,e⟩
  | .dT _,x=>by obtain ⟨_,_,_,_,ob,_,_,e,_⟩:=x;exact ⟨_,e⟩
  | .set _ _,x=>by obtain ⟨ob,_,_,_,e,_⟩:=x;exact ⟨_,e⟩
  | .ins _ _ _,x=>by obtain ⟨_,_,_,e,_⟩:=x;exact ⟨_,e⟩
  | .own _,x=>x
  | .xd _,x=>by obtain ⟨_,⟨ob,_,_,e,_⟩,_⟩:=x;exact ⟨_,e⟩
  | .met _ _,x=>⟨_,x⟩
  | .rng _ _,x=>by obtain ⟨_,_,_,e⟩:=x;exact ⟨_,e⟩
  | .frz _ _,x=>⟨_,x.1⟩
  | .tbl _,x=>⟨_,x⟩
  | .ext _,x=>x.2.1
theorem HOk.none_of {P:Program} {w:World} {H:Hp} {h:Heap} {a:Addr} (ok:HOk P w H h) (n:h.get? a=none):H a=none:=by
  cases q:H a with
  | none=>rfl
  | some o=>
    obtain ⟨u,hu⟩:=(ok a o q).there
    rw[n] at hu
    cases hu
theorem Inv.laid2 {X:Cx} {pins:List (Addr×Obj)} {σ:St} {H:Hp} {s s':Shared} {a:Addr} {o:HO} (I:Inv X pins σ H s) (os:s'.os=s.os) (hg:s'.gens=s.gens) (k:∀ b u,s.heap.get? b=some u→s'.heap.get? b=some u) (nw:s.heap.get? a=none)
    (new:ObjOk X.prog X.w (upd H a o) s'.heap a o):Inv X pins σ (upd H a o) s':=by
  have hn:=I.hok.none_of nw
  have ne:∀ b u,s.heap.get? b=some u→b≠a:=fun b u q z=>by rw[z,nw] at q;cases q
  have neH:∀ b u,H b=some u→b≠a:=fun b u q=>ne_of_none q hn
  refine I.call' (ch:=[]) os ⟨fun b u q _ _ _=>k b u q,fun b u q _ _ _=>⟨u.slots,k b u q⟩,fun b u q n _=>by rw[upd_ne (ne b u q)];exact n,fun b u q _=>⟨u,k b u q⟩,fun b xs q=>by rw[upd_ne (neH b _ q)];exact q,fun b u v q=>by rw[upd_ne (neH b _ q)];exact q,fun b ps q=>⟨#[],by rw[upd_ne (neH b _ q),Array.append_empty];exact q⟩⟩
    (fun b u q=>?_) (by rw[hg];exact I.bare) (fun b hb=>by cases hb)
  by_cases hb:b=a
  · subst hb
    rw[upd_same] at q
    cases q
    exact new
  · rw[upd_ne hb] at q
    exact (I.hok b u q).stay (fun c w' _ q=>k c w' q) (fun c q=>by rw[upd_ne (neH c _ q)];exact q) fun c xs q=>by rw[upd_ne (neH c _ q)];exact q
section
variable {X:Cx}
def signs (l:List Nat):List (List Nat):=l.map fun c=>[c]
theorem items_signs {l:List Nat} {acc:Array Value} (h:ItemsOf (SignAt ⟨l.toArray⟩) acc (⟨l.toArray⟩:Str).cps.size):Vals ((signs l).map tx) acc.toList:=by
  obtain ⟨h1,h2⟩:=h
  have hl:(⟨l.toArray⟩:Str).cps.size=l.length:=by show l.toArray.size=_;simp
  rw[hl] at h1
  have gen:∀ (l:List Nat) (us:List Value),us.length=l.length→(∀ (j:Nat) (v:Value),us[j]?=some v→∃ (c:Nat) (u:Tok),l[j]?=some c∧v=Value.str ⟨#[c]⟩ u)→Vals ((signs l).map tx) us:=by
    intro l
    induction l with
    | nil=>
      intro us hl _
      have:us=[]:=List.eq_nil_of_length_eq_zero hl
      subst this
      exact .nil
    | cons c l ih=>
      intro us hl h
      cases us with
      | nil=>cases hl
      | cons u us=>
        obtain ⟨c',t,e,rfl⟩:=h 0 u rfl
        cases e
        refine .cons ⟨t,rfl⟩ (ih us (by simpa using hl) fun j v e=>h (j + 1) v e)
  refine gen l acc.toList (by rw[Array.length_toList,h1]) fun j v e=>?_
  rw[Array.getElem?_toList] at e
  obtain ⟨c,u,e1,e2⟩:=h2 j v e
  exact ⟨c,u,by simpa using e1,e2⟩
theorem call_list_tx (hc:X.calm=true):CallR X (.type "list") (fun xs H Q=>∃ l,xs=[tx l]∧l.length≤1000∧NewL ((signs l).map tx) H Q):=by
  rintro pins s σ H xs us Q I r ⟨l,rfl,hz,q⟩
  obtain ⟨u,rfl,t,rfl⟩:=r.one
  have hl:(⟨l.toArray⟩:Str).cps.size=l.length:=by show l.toArray.size=_;simp
  refine call_list_str (I.ok.hd hc) _ t (fun h' tk acc c k e it=>?_) (by rw[hl];exact Nat.le_of_lt (small1000 hz))
  refine ⟨.ref s.heap.objs.size,_,I.laid (t':=tk) k (Nat.le_refl _) ?_,rfl,q _ I.fresh⟩
  exact ⟨by unfold signs;rw[List.length_map,List.length_map];exact Nat.le_of_lt (small1000 hz),acc.toList,c,items_signs it,by rw[Array.toArray_toList];exact e⟩
theorem call_allL (hc:X.calm=true):CallR X (.builtin "all") (fun xs H Q=>∃ (a:Addr) (bs:List Bool),xs=[.ref a]∧H a=some (.lst (bs.map V.bl))∧Q (.bl (bs.all id)) H):=by
  rintro pins s σ H xs us Q I r ⟨a,bs,rfl,ha,q⟩
  obtain ⟨u,rfl,ru⟩:=r.one
  cases ru
  obtain ⟨_,its,n,r',hlen,e⟩:=I.lstM ha
  have hl:s.heap.IsList a its.toArray:=PySem.IsL.isList e
  have hne:a≠s.heap.objs.size:=Nat.ne_of_lt (Heap.lt_size e)
  refine call_all_walkS (wpAny_pyIter_list hl ?_)
  have hL:its.toArray.size=bs.length:=by rw[List.size_toArray,←r'.length,List.length_map]
  have W:=(Walks.list (prog:=X.prog) (w:=X.w) (A:=X.A.in1) (by simpa using I.ok.hd hc) s.heap.objs.size a hne its.toArray).toS
  refine ⟨s.heap.objs.size,_,_,_,_,_,_,fun i=>bs.getD i true,rfl,W,⟨⟨_,Heap.get?_push_size _ rfl,rfl,rfl⟩,hl.push _⟩,?_,fun s' hm=>?_⟩
  · intro i v s Q E hv hQ
    have e':its[i]?=some v:=by simpa using hv
    obtain ⟨x,hx,rx⟩:=vals_at r' e'
    rw[List.getElem?_map] at hx
    cases hb:bs[i]? with
    | none=>rw[hb] at hx;cases hx
    | some b=>
      rw[hb] at hx
      cases hx
      obtain rfl:v=Value.bool b:=rx
      have:bs.getD i true=b:=by rw[List.getD_eq_getElem?_getD,hb];rfl
      have hQ':Q (bs.getD i true) s:=hQ
      rw[this] at hQ'
      exact wpAny_truthy_bool hQ'
  · have ea:(List.range its.toArray.size).all (fun i=>bs.getD i true)=bs.all id:=by
      rw[hL]
      rw[Bool.eq_iff_iff,List.all_eq_true,List.all_eq_true]
      constructor
      · intro h b hb
        obtain ⟨i,hi,rfl⟩:=List.getElem_of_mem hb
        have:=h i (List.mem_range.mpr hi)
        rw[List.getD_eq_getElem?_getD,List.getElem?_eq_getElem hi] at this
        exact this
      · intro h i hi
        have hi:=List.mem_range.mp hi
        rw[List.getD_eq_getElem?_getD,List.getElem?_eq_getElem hi]
        exact h _ (List.getElem_mem hi)
    rw[ea]
    have I2:Inv X pins σ H s':=I.call' (ch:=[]) hm.os (Un.kept fun b o q=>hm.heap b o (fun z=>?_) (Heap.get?_push_of_some _ q)) (I.hok.kept fun b o q=>hm.heap b o (fun z=>?_) (Heap.get?_push_of_some _ q)) (by rw[show s'.gens=s.gens from hm.gens];exact I.bare) (fun b hb=>by cases hb)
    · exact ⟨.bl _,H,I2,rfl,q⟩
    · have z:b=s.heap.objs.size:=by simpa using z
      rw[z] at q;exact absurd (Heap.lt_size q) (Nat.lt_irrefl _)
    · have z:b=s.heap.objs.size:=by simpa using z
      rw[z] at q;exact absurd (Heap.lt_size q) (Nat.lt_irrefl _)
def tset (P:Program) (w:World) (a:Addr) (ls:List (List Nat)):HO:=.ext fun h=>TxSet P w h a ls (!byTxt w)
theorem tset_ok {P:Program} {w:World} {H:Hp} {h:Heap} {a:Addr} {ls:List (List Nat)} (x:TxSet P w h a ls (!byTxt w)):ObjOk P w H h a (tset P w a ls):=by
  obtain ⟨o,es,ep,t,ms,h1,r⟩:=id x
  exact ⟨x,⟨o,h1⟩,fun g1 g2 y k=>y.keep k⟩
def ddl (ls:List (List Nat)):List (List Nat):=ls.foldl addT []
theorem dd_list {ls:List (List Nat)}:dd (fun i=>ls.getD i []) ls.length=ddl ls:=by
  unfold dd ddl
  congr 1
  apply List.ext_getElem
  · simp
  · intro n h1 h2
    simp [h2]
theorem call_set_tx (hc:X.calm=true):CallR X (.type "set") (fun xs H Q=>∃ ls:List (List Nat),ls.length≤1000∧((∃ l,xs=[tx l]∧ls=signs l)∨∃ a,xs=[.ref a]∧SqL X.K H a (ls.map tx))∧∀ p,H p=none→Q (.ref p) (upd H p (tset X.prog X.w p (ddl ls)))):=by
  rintro pins s σ H xs us Q I r ⟨ls,hz,hx,q⟩
  have hb:ls.length + 1 < scanBound:=by show _ < 4096;omega
  have fin:∀ (h':Heap) (tk:Nat),TxSet X.prog X.w h' s.heap.objs.size (ddl ls) (!byTxt X.w)→(∀ b o,s.heap.get? b=some o→h'.get? b=some o)→EP X pins σ Q (.ref s.heap.objs.size) { s with heap:=h',toks:=tk }:=fun h' tk hS k=>
    ⟨.ref s.heap.objs.size,_,I.laid (t':=tk) k (Nat.le_refl _) (tset_ok hS),rfl,q _ I.fresh⟩
  rcases hx with ⟨l,rfl,rfl⟩ | ⟨a,rfl,hq⟩
  · obtain ⟨u,rfl,t,rfl⟩:=r.one
    have hl:(signs l).length=l.length:=by unfold signs;rw[List.length_map]
    have e0:dd (fun i=>[l.getD i 0]) l.length=ddl (signs l):=by
      unfold dd ddl signs
      congr 1
      apply List.ext_getElem
      · simp
      · intro n h1 h2
        have:n < l.length:=by simpa using h2
        simp [this]
    refine set_call (I.ok.hd hc) (walked_text (prog:=X.prog) (w:=X.w) (s:=s) (l:=l) (t:=t)) F.sub_str_set F.sub_str_frozenset (by decide) (by rw[←hl];exact hb) fun h' tk hS k _=>?_
    rw[e0] at hS
    exact fin h' tk hS k
  · obtain ⟨u,rfl,ru⟩:=r.one
    cases ru
    obtain ⟨its,rv,p,_⟩:=I.list hq
    refine set_call (I.ok.hd hc) (walked_list (prog:=X.prog) (w:=X.w) (s:=s) p.isList rv) F.sub_list_set F.sub_list_frozenset (by decide) hb fun h' tk hS k _=>?_
    rw[dd_list] at hS
    exact fin h' tk hS k
theorem call_sorted_set (hc:X.calm=true):CallR X (.builtin "sorted") (fun xs H Q=>∃ a ls,xs=[.ref a]∧H a=some (tset X.prog X.w a ls)∧ls.length < 64∧NewL ((sortT ls).map tx) H Q):=by
  rintro pins s σ H xs us Q I r ⟨a,ls,rfl,ha,h64,q⟩
  obtain ⟨u,rfl,ru⟩:=r.one
  cases ru
  have hS:TxSet X.prog X.w s.heap a ls (!byTxt X.w):=(I.hok a _ ha).1
  refine sorted_set (I.ok.hd hc) hS h64 fun s' b us e nw k hg ho hb rv=>?_
  have hl:(sortT ls).length≤sizeLine:=by rw[(sortT_perm ls).length_eq];exact Nat.le_trans (Nat.le_of_lt h64) (by rw[sizeLine_eq];decide)
  exact ⟨.ref b,_,I.laid2 (o:=.lst ((sortT ls).map tx)) ho hg k nw ⟨by rw[List.length_map];exact hl,us,e,rv,hb⟩,rfl,q b (I.hok.none_of nw)⟩
end
end L2
set_option Elab.async false
set_option linter.all false
set_option maxRecDepth 100000
namespace L2
open PySem PySem.Spec PyProof.Rows
open PySem.W (Frag)
theorem pe_strT {X:Cx} {x:Str} {l:List Nat} {j:Nat} {pos:Pos} (h:x=⟨l.toArray⟩):PE X (.Constant (.str x) j pos) (tC (tx l)):=by subst h;exact pe_str
theorem pe_globS {X:Cx} {x y:Str} {pos:Pos} (hg:Gl X x) (hm:∃ t,X.mg x=some (.str y t)) (hd:(x == ("__debug__":Str))=false:=by decide):PE X (.Name x pos) (tC (.str y)):=by
  obtain ⟨t,h⟩:=hm
  exact pe_glob hg h ⟨t,rfl⟩ hd
theorem pe_globI {X:Cx} {x:Str} {y:Int} {pos:Pos} (hg:Gl X x) (hm:∃ t,X.mg x=some (.int y t)) (hd:(x == ("__debug__":Str))=false:=by decide):PE X (.Name x pos) (tC (.int y)):=by
  obtain ⟨t,h⟩:=hm
  exact pe_glob hg h ⟨t,rfl⟩ hd
section
variable {CX:CXT} {P:Program} {w:World} {K:PySem.W.Frag} {mg:Str→Option Value} {base:Heap} {N:List Str} {qual:Str} {scope:Scope} {f:Addr} {cd:Value} {A:Around} {outer:List Env} {s:Shared} {H:Hp} {E:XK} {X:Cx} {e:Addr}
theorem cxPr:(cxOf CX P w K mg base N qual scope f cd A outer s H E).prog=P:=rfl
theorem cxWo:(cxOf CX P w K mg base N qual scope f cd A outer s H E).w=w:=rfl
theorem suxK:(sux X e).K=X.K:=rfl
theorem suxPr:(sux X e).prog=X.prog:=rfl
theorem suxWo:(sux X e).w=X.w:=rfl
end
end L2
set_option Elab.async false
set_option linter.all false
set_option maxRecDepth 100000
namespace L2
open PySem PySem.Spec PyProof.Rows
open PySem.W (Frag KeqHits)
section
variable {X:Cx} {K:Frag}
end
end L2
set_option Elab.async false
set_option linter.all false
set_option maxRecDepth 100000
namespace L2
open PySem PySem.Spec PyProof.Rows
open PySem.W (Frag)
theorem pass_on {P:Program} {w:World} {K:Frag} {mg:Str→Option Value} {base:Heap} {N:List Str} {qual:Str} {scope:Scope} {f:Addr} {cd:Value} {A:Around} {outer:List Env} {s0:Shared} {H0:Hp} {E:XK}:
    Passes (CXr P w) (cxOf (CXr P w) P w K mg base N qual scope f cd A outer s0 H0 E) E:=by
  intro pins σ H s ev s' I hx
  generalize hX:cxOf (CXr P w) P w K mg base N qual scope f cd A outer s0 H0 E=X at I hx ⊢
  have eA:X.A=A.deeper (envOfC qual scope s0.heap.objs.size f cd):=by rw[←hX];rfl
  have eS:X.stack=envOfC qual scope s0.heap.objs.size f cd :: outer:=by rw[←hX];rfl
  have eF:X.fs=frs outer:=by rw[←hX];rfl
  have e0:X.s₀=s0:=by rw[←hX];rfl
  have eH:X.H₀=H0:=by rw[←hX];rfl
  have eX:X.ex=[]:=by rw[←hX];rfl
  have ePr:X.prog=P:=by rw[←hX];rfl
  have eW:X.w=w:=by rw[←hX];rfl
  have hxe:∀ ev s',wpAny (model P w) (A.deeper (envOfC qual scope s0.heap.objs.size f cd)) (leaving (envOfC qual scope s0.heap.objs.size f cd) ev) (fun _ s''=>CXr P w outer H0 s0 E ev s'') (fun e' s''=>CXr P w outer H0 s0 E e' s'') s'→X.xe ev s':=by
    intro ev s' z;rw[←hX];exact z
  obtain ⟨e,C,d,H',h1,B,rfl,hos,hbare,un,ok,he,kept,fl,up,hE⟩:=hx
  refine hxe _ _ ?_
  have hfr:(A.deeper (envOfC qual scope s0.heap.objs.size f cd)).frames=some (envOfC qual scope s0.heap.objs.size f cd :: outer):=by rw[←eA,←eS];exact I.ok.frames
  have J:Inv X pins σ H' { s' with heap:=h1 }:=I.call' (s':={ s' with heap:=h1 }) (ch:=[]) hos un (by rw[ePr,eW];exact ok) hbare (fun b hb=>by cases hb)
  rw[eS] at fl
  refine leave_next hfr rfl fl fun h' fl' up'=>?_
  have os:s'.os=s0.os:=by rw[hos,←e0];exact I.os
  have un':Un (frs outer) [] H0 H' s0.heap h1:=by
    have:=J.base
    rwa [eF,eX,eH,e0] at this
  refine ⟨e,C,d,H',h1,B,rfl,os,hbare,un',ok,he,fun b o hb hne hc=>?_,fl',up.trans up',hE⟩
  rcases hc with hu | ⟨⟨o',ho'⟩,hn⟩
  · exact kept b o hb hne (.inl hu)
  · refine kept b o hb hne (.inr ⟨?_,fun z=>?_⟩)
    · have:=I.base
      rw[eF,eX,eH,e0] at this
      exact this.there b o' ho' (by simp)
    · rw[eS] at z
      have z':b=s0.heap.objs.size∨b∈frs outer:=by
        have:=z
        unfold frs at this
        rw[List.filterMap_cons] at this
        simpa [envOfC,frs] using this
      rcases z' with z' | z'
      · rw[z'] at ho';exact absurd (Heap.lt_size ho') (Nat.lt_irrefl _)
      · exact hn z'
end L2
set_option Elab.async false
set_option linter.all false
set_option maxRecDepth 100000
namespace L2
open PySem PySem.Spec PyProof.Rows
section
variable {prog:Program} {w:World} {A:Around} {E:Value→Shared→Prop} {s:Shared}
structure Zap (z TI TO i1 i2:Addr) (f1 f2:List Addr):Prop where
  a1:TI≠z
  a2:TO≠z
  a3:i1≠z
  a4:i2≠z
  a5:TI≠TO
  a6:TI≠i1
  a7:TI≠i2
  a8:TO≠i1
  a9:TO≠i2
  b1:z∉f1
  b2:z∉f2
  b3:TO∉f1
  b4:TO∉f2
  b5:i2∉f1
  b6:i1∉f2
variable {z TI TO i1 i2:Addr} {f1 f2:List Addr} {n i:Nat} {P1 P2:Nat→Value→Prop} {S1 S2:Nat→Heap→Prop} {a b:Value}
end
section
variable {prog:Program} {w:World} {A:Around} {E:Value→Shared→Prop} {s:Shared} {z TI TO i1 i2:Addr} {f1 f2:List Addr} {n i:Nat} {P1 P2:Nat→Value→Prop} {S1 S2:Nat→Heap→Prop} {a b:Value}
end
def Itz (K:PySem.W.Frag) (a b:Addr):It:=
  ⟨fun i H=>∃ xs ys x y,SqT K H a xs∧SqT K H b ys∧xs.length=ys.length∧xs[i]?=some x∧ys[i]?=some y,
   fun i H v H'=>∃ p x y,H p=none∧v=.ref p∧H'=upd H p (.tup [x,y])∧(∀ xs,SqT K H a xs→xs[i]?=some x)∧∀ ys,SqT K H b ys→ys[i]?=some y,
   fun i H=>∃ xs ys,SqT K H a xs∧SqT K H b ys∧xs.length=ys.length∧xs.length=i⟩
section
variable {X:Cx} {es:List Expr} {x1:Nat} {tp:Pos}
def iZip (K:PySem.W.Frag) (ta:TA):TI:=fun σ H R=>ta σ H fun vs H1=>∃ a b,vs=[.ref a,.ref b]∧(∃ xs,SqT K H1 a xs)∧(∃ ys,SqT K H1 b ys)∧R (Itz K a b) H1
end
end L2
set_option Elab.async false
set_option linter.all false
set_option maxRecDepth 100000
namespace L2
open PySem PySem.Spec PyProof.Rows
section
variable {prog:Program} {w:World} {A:Around} {E:Value→Shared→Prop} {s:Shared} {l I S:Addr} {ls:List (List Nat)} {vs:List Value} {R:Result→Shared→Prop} {Q:Value→Shared→Prop}
end
section
variable {X:Cx} {e:Expr} {ta:TA} {p p2 pos kpos:Pos}
def repT (l:List Nat) (n:Int):List Nat:=(List.replicate n.toNat l).flatten
theorem foldl_cat (a:Array Nat):∀ (n:Nat) (acc:Array Nat),((List.replicate n a).foldl (·++·) acc).toList=acc.toList++(List.replicate n a.toList).flatten
  | 0,acc=>by simp
  | n + 1,acc=>by
    rw[List.replicate_succ,List.foldl_cons,foldl_cat a n,List.replicate_succ]
    simp
theorem mul_eq (l:List Nat) (n:Int):Txt.mul ⟨l.toArray⟩ n=⟨(repT l n).toArray⟩:=by
  unfold Txt.mul repT
  by_cases h1:n < 1
  · rw[if_pos h1]
    have:n.toNat=0:=by omega
    rw[this];rfl
  · rw[if_neg h1]
    split
    · rename_i h
      rw[Bool.or_eq_true] at h
      rcases h with h | h
      · have:n=1:=by simpa using h
        subst this
        simp
      · have:l=[]:=by
          have:=beq_iff_eq.mp h
          rw[txlen] at this
          exact List.length_eq_zero_iff.mp this
        subst this
        simp
    · congr 1
      apply Array.ext'
      rw[foldl_cat]
      simp
theorem op_mul_tx:OpR X (binaryOp .Mult) (fun x y H Q=>∃ l n,x=tx l∧y=.int n∧0≤n∧n≤1000∧l.length≤1000∧Q (tx (repT l n)) H):=by
  rintro pins s σ H x y v u Q I rx ry ⟨l,n,rfl,rfl,h0,h1,h2,q⟩
  obtain ⟨t,rfl⟩:=rx
  obtain ⟨t',rfl⟩:=ry
  have e1:(⟨l.toArray⟩:Str).length=l.length:=txlen l
  refine SB.mul ⟨?_,fun a b=>?_,fun a b=>?_⟩ fun t2 k=>?_
  · simp only[Bool.or_eq_false_iff,decide_eq_false_iff_not];omega
  · rw[e1]
    have e3:(1000:Int)≤(2 ^ 63 - 1) / n:=by
      rw[Int.le_ediv_iff_mul_le (by omega)]
      omega
    omega
  · rw[e1]
    have:l.length * n.toNat≤1000 * 1000:=Nat.mul_le_mul h2 (by omega)
    unfold Builtin.Str.tooLong
    simp only[decide_eq_false_iff_not]
    rw[sizeLine_eq]
    omega
  · rw[mul_eq];exact ⟨tx _,H,I.tok _,⟨_,rfl⟩,q⟩
end
end L2
set_option Elab.async false
set_option linter.all false
set_option maxRecDepth 100000
namespace L2
open PySem PySem.Spec PyProof.Rows
open PySem.W (Frag)
theorem ForRun.zip {g:TG} {tb:TS} {D:Ends} {σ:St} {H:Hp} {K:Frag} {a b:Addr} {xs ys:List V} (he:xs.length=ys.length) (Pv:Nat→St→Hp→Prop) (h0:Pv 0 σ H) (hl:∀ i σ H,i≤xs.length→Pv i σ H→SqT K H a xs∧SqT K H b ys)
    (hs:∀ i x y p σ H,xs[i]?=some x→ys[i]?=some y→Pv i σ H→H p=none→g (.ref p) σ (upd H p (.tup [x,y])) fun σ2 H2=>tb { D with nx:=Pv (i + 1),ct:=Pv (i + 1),bk:=D.nx } σ2 H2) (hd:∀ σ H,Pv xs.length σ H→D.nx σ H):
    ForRun (Itz K a b) g tb D σ H:=by
  refine ⟨fun i m σ H=>m=xs.length - i∧i≤xs.length∧Pv i σ H,⟨xs.length,by simp,Nat.zero_le _,h0⟩,?_⟩
  rintro i m σ H ⟨rfl,hi,p⟩
  obtain ⟨q1,q2⟩:=hl i σ H hi p
  by_cases hlt:i < xs.length
  · have ly:i < ys.length:=by omega
    refine .inr ⟨⟨xs,ys,xs[i],ys[i],q1,q2,he,by simp [hlt],by simp [ly]⟩,Pv (i + 1),fun σ' H' p'=>⟨xs.length - (i + 1),by omega,rfl,hlt,p'⟩,fun x H' y=>?_⟩
    obtain ⟨pt,u,v,hn,rfl,rfl,hu,hv⟩:=y
    exact hs i u v pt σ H (hu xs q1) (hv ys q2) p hn
  · have e:i=xs.length:=by omega
    subst e
    exact .inl ⟨⟨xs,ys,q1,q2,he,rfl⟩,hd σ H p⟩
def Ans (H:Hp) (v:V):Option (List Nat×Int)→Prop
  | none=>v=.non
  | some (m,k)=>∃ p,v=.ref p∧H p=some (.tup [tx m,.int k])
theorem Ans.same {H H':Hp} {v:V} (s:Same H H'):∀ {r:Option (List Nat×Int)},Ans H v r→Ans H' v r
  | none,h=>h
  | some (_,_),⟨p,e,h⟩=>⟨p,e,s _ _ h⟩
end L2
set_option Elab.async false
set_option linter.all false
set_option maxRecDepth 100000
namespace L2
open PySem PySem.Spec PyProof.Rows
open PySem.W (Frag)
def sNo:TS:=fun _ _ _=>False
section
variable {X:Cx} {CX:CXT} {k:Nat} {L f:Addr} {fd:FuncData} {ps:List Str} {sp:Sp} {E:XK} {x:Str} {pos apos np:Pos} {e:Expr} {es:List Expr} {t:TA} {ds:List Value} {dvs:List V}
theorem pe_cinit {pl:Sem Bool} (hg:Gl X x) (hm:X.mg x=some (.ref L)) (cr:ClsRead X.K L "__init__" (.ref f)) (F:FnOk X.prog X.w X.K X.mg X.base CX k f fd ps sp) (hr:Room k X.A) (hk:PySem.W.keepIn X.K (.ref f)=true) (hb:Binds X.K fd ps ds) (hd:Vals dvs ds) (hx:Passes CX X E)
    (ha:PA X (e :: es) t) (hdb:(x == ("__debug__":Str))=false:=by decide) (hst:starEach (e :: es) X.env=(false,eval e X.env) :: starEach es X.env:=by rfl) (hpl:(backTo pos (starEach es X.env)).any (·.1)=false:=by rfl)
    (ht:eval (.Call (.Attribute (.Name x np) "__init__" apos) (e :: es) [] pos) X.env=(do
      let ov ←eval (.Name x np) X.env
      standAt apos.atName
      let (f,first) ←holding [ov] (getMethod ov "__init__" pl)
      callWith pos f first (backTo pos (starEach (e :: es) X.env)) (backToKw pos (keywordEach [] X.env))):=by rfl):PE X (.Call (.Attribute (.Name x np) "__init__" apos) (e :: es) [] pos) (tCall sp dvs E t):=by
  intro pins s σ H Q I h
  refine PySem.W.methodCall_KW (pl:=pl) (ld_glob I hg hm ?_ hdb) ht
  refine PySem.W.method_cls I.kIn cr.sp (PySem.W.cls_value I.kIn cr.rd cr.fd cr.hn ?_)
  refine PySem.W.callWith_K (first:=[]) (h₀:=X.base) I.ok.mod.kin hk (thn (ha pos pins _ σ H _ (I.tok _) h) fun us s1 ⟨vs,H1,I1,r,q⟩=>⟨I1.kIn,?_⟩) hst hpl
  exact run_fn F hr hb hd hx I1 r q
end
def WhileRun (c:TT) (tb:TS) (D:Ends) (σ:St) (H:Hp):Prop:=tWhile c tb D σ H
theorem q_while {c:TT} {tb:TS} {D:Ends} {σ:St} {H:Hp}:tWhile c tb D σ H=WhileRun c tb D σ H:=rfl
theorem WhileRun.by {c:TT} {tb:TS} {D:Ends} {σ:St} {H:Hp} (Pv:St→Hp→Prop) (μ:St→Hp→Nat) (h0:Pv σ H)
    (hs:∀ σ H,Pv σ H→∃ b:Bool,(∀ Q:Bool→Hp→Prop,(∀ H1,Same H H1→Q b H1)→c σ H Q)∧∀ H1,Same H H1→if b=true then tb { D with nx:=fun σ' H'=>Pv σ' H'∧μ σ' H' < μ σ H,ct:=fun σ' H'=>Pv σ' H'∧μ σ' H' < μ σ H,bk:=D.nx } σ H1 else D.nx σ H1):WhileRun c tb D σ H:=by
  refine ⟨fun m σ H=>m=μ σ H∧Pv σ H,⟨_,rfl,h0⟩,?_⟩
  rintro m σ H ⟨rfl,p⟩
  obtain ⟨b,hc,hb⟩:=hs σ H p
  refine hc _ fun H1 s1=>?_
  have q:=hb H1 s1
  cases b with
  | true=>exact ⟨_,fun σ' H' ⟨p',l⟩=>⟨_,l,rfl,p'⟩,q⟩
  | false=>exact q
end L2
set_option Elab.async false
set_option linter.all false
set_option maxRecDepth 100000
namespace L2
open PySem PySem.Spec PyProof.Rows
def cyc (l:List Nat) (i:Nat):Nat:=l.getD (i % l.length) 0
def laidOut (l:List Nat) (n:Nat):List Nat:=(repT l ((n:Int) / (l.length:Nat) + 2)).take (l.length + n - 1)
def wordsOf (l:List Nat) (n:Nat):List (List Nat):=sortT (ddl ((List.range (l.length + 1 - n)).map fun i=>(l.drop i).take n))
def ringList (l:List Nat) (n:Nat):List (List Nat):=(List.range l.length).map fun i=>(List.range n).map fun j=>cyc l (i + j)
def ringWords (l:List Nat) (n:Nat):List (List Nat):=sortT (ddl (ringList l n))
def isRep (l:List Nat) (s:Nat):Bool:=decide (repT (l.take s) ((l.length:Int) / (s:Nat))=l)
def rootLen (l:List Nat):Nat:=((List.range l.length).find? fun s=>decide (1≤s)&&isRep l s).getD l.length
def rootOf (l:List Nat):List Nat:=l.take (rootLen l)
def turnL (l:List Nat) (b:Int):List Nat:=l.drop (b % (l.length:Nat)).toNat++l.take (b % (l.length:Nat)).toNat
theorem cyc_period (l:List Nat) (i:Nat):cyc l (i + l.length)=cyc l i:=by unfold cyc;rw[Nat.add_mod_right]
theorem cyc_mod (l:List Nat) (i:Nat):cyc l (i % l.length)=cyc l i:=by unfold cyc;rw[Nat.mod_mod]
theorem cyc_at {l:List Nat} {i:Nat} (h:i < l.length):l[i]?=some (cyc l i):=by
  unfold cyc
  rw[Nat.mod_eq_of_lt h,List.getD_eq_getElem?_getD,List.getElem?_eq_getElem h]
  rfl
theorem list_of_cyc (l:List Nat):l=(List.range l.length).map (cyc l):=by
  apply List.ext_getElem?
  intro i
  by_cases h:i < l.length
  · rw[cyc_at h,List.getElem?_map,List.getElem?_range h];rfl
  · rw[List.getElem?_eq_none (by omega),List.getElem?_eq_none (by simp;omega)]
theorem rep_len (l:List Nat) (n:Nat):((List.replicate n l).flatten).length=n * l.length:=by simp
theorem rep_at {l:List Nat}:∀ {n k:Nat},k < n * l.length→((List.replicate n l).flatten)[k]?=some (cyc l k)
  | 0,k,h=>by omega
  | n + 1,k,h=>by
    rw[List.replicate_succ,List.flatten_cons]
    by_cases hk:k < l.length
    · rw[List.getElem?_append_left hk];exact cyc_at hk
    · have hk':l.length≤k:=by omega
      rw[List.getElem?_append_right hk',rep_at (by rw[Nat.succ_mul] at h;omega)]
      have e:=cyc_period l (k - l.length)
      rw[Nat.sub_add_cancel hk'] at e
      rw[e]
theorem cut_cyc {g:List Nat} {f:Nat→Nat} {i n:Nat} (hg:∀ k,k < g.length→g[k]?=some (f k)) (h:i + n≤g.length):(g.drop i).take n=(List.range n).map fun j=>f (i + j):=by
  apply List.ext_getElem?
  intro k
  by_cases hk:k < n
  · rw[List.getElem?_take_of_lt hk,List.getElem?_drop,hg (i + k) (by omega),List.getElem?_map,List.getElem?_range hk];rfl
  · rw[List.getElem?_eq_none (by simp;omega),List.getElem?_eq_none (by simp;omega)]
theorem div_bound {n s:Nat} (hs:1≤s):s + n≤(n / s + 2) * s:=by
  have:=Nat.div_add_mod n s
  have:=Nat.mod_lt n hs
  rw[Nat.add_mul,Nat.mul_comm (n / s) s]
  omega
theorem repT_nat (l:List Nat) (n:Nat) (s:Nat):repT l ((n:Int) / (s:Nat) + 2)=(List.replicate (n / s + 2) l).flatten:=by
  unfold repT
  have:((n:Int) / (s:Nat) + 2).toNat=n / s + 2:=by
    have e:(n:Int) / (s:Nat)=((n / s:Nat):Int):=(Int.natCast_ediv n s).symm
    rw[e];exact Int.toNat_natCast (n / s + 2)
  rw[this]
theorem going_len {l:List Nat} {n:Nat} (h1:1≤l.length):l.length + n≤(repT l ((n:Int) / (l.length:Nat) + 2)).length:=by
  rw[repT_nat,rep_len];exact div_bound h1
theorem going_at {l:List Nat} {n k:Nat} (h:k < (repT l ((n:Int) / (l.length:Nat) + 2)).length):(repT l ((n:Int) / (l.length:Nat) + 2))[k]?=some (cyc l k):=by
  rw[repT_nat] at h ⊢
  rw[rep_len] at h
  exact rep_at h
theorem laid_len {l:List Nat} {n:Nat} (h1:1≤l.length):(laidOut l n).length=l.length + n - 1:=by
  unfold laidOut
  have:=going_len (n:=n) h1
  rw[List.length_take]
  omega
theorem laid_at {l:List Nat} {n k:Nat} (h1:1≤l.length) (h:k < (laidOut l n).length):(laidOut l n)[k]?=some (cyc l k):=by
  have h':=h
  rw[laid_len h1] at h'
  unfold laidOut
  rw[List.getElem?_take_of_lt h']
  have:=going_len (n:=n) h1
  exact going_at (by omega)
theorem words_laid {l:List Nat} {n:Nat} (h1:1≤l.length):wordsOf (laidOut l n) n=ringWords l n:=by
  unfold wordsOf ringWords ringList
  have e:(laidOut l n).length + 1 - n=l.length:=by rw[laid_len h1];omega
  rw[e]
  congr 2
  apply List.map_congr_left
  intro i hi
  have hi:=List.mem_range.mp hi
  exact cut_cyc (fun k hk=>laid_at h1 hk) (by rw[laid_len h1];omega)
theorem words_going {l:List Nat} {n:Nat} (h1:1≤l.length):sortT (ddl ((List.range l.length).map fun i=>((repT l ((n:Int) / (l.length:Nat) + 2)).drop i).take n))=ringWords l n:=by
  unfold ringWords ringList
  congr 2
  apply List.map_congr_left
  intro i hi
  have hi:=List.mem_range.mp hi
  exact cut_cyc (fun k hk=>going_at hk) (by have:=going_len (n:=n) h1;omega)
theorem mem_foldl_addT {x:List Nat}:∀ (ls acc:List (List Nat)),x∈ls.foldl addT acc↔x∈acc∨x∈ls
  | [],acc=>by simp
  | y :: ls,acc=>by
    rw[List.foldl_cons,mem_foldl_addT ls]
    have h:x∈addT acc y↔x∈acc∨x=y:=by
      unfold addT
      split
      · rename_i h
        constructor
        · exact .inl
        · rintro (q | q)
          · exact q
          · rw[q];exact h
      · rw[List.mem_append,List.mem_singleton]
    rw[h,List.mem_cons,or_assoc]
theorem mem_ddl {x:List Nat} {ls:List (List Nat)}:x∈ddl ls↔x∈ls:=by
  unfold ddl
  rw[mem_foldl_addT]
  simp
theorem nodup_ddl (ls:List (List Nat)):(ddl ls).Nodup:=by rw[←dd_list];exact dd_nodup _
theorem words_ext {A B:List (List Nat)} (h:∀ x,x∈A↔x∈B):sortT (ddl A)=sortT (ddl B):=
  sortT_congr ((List.perm_ext_iff_of_nodup (nodup_ddl A) (nodup_ddl B)).mpr fun x=>by rw[mem_ddl,mem_ddl];exact h x)
theorem mem_ringList {l x:List Nat} {n:Nat}:x∈ringList l n↔∃ i,i < l.length∧x=(List.range n).map fun j=>cyc l (i + j):=by
  unfold ringList
  rw[List.mem_map]
  constructor
  · rintro ⟨i,hi,rfl⟩;exact ⟨i,List.mem_range.mp hi,rfl⟩
  · rintro ⟨i,hi,rfl⟩;exact ⟨i,List.mem_range.mpr hi,rfl⟩
theorem ringWords_of {l l':List Nat} {n k k':Nat} (h1:1≤l.length) (h1':1≤l'.length) (h:∀ i,cyc l' i=cyc l (i + k)) (h':∀ i,cyc l i=cyc l' (i + k')):ringWords l' n=ringWords l n:=by
  refine words_ext fun x=>?_
  rw[mem_ringList,mem_ringList]
  have go:∀ {a b:List Nat} {d:Nat},1≤b.length→(∀ i,cyc a i=cyc b (i + d))→∀ i,∃ i',i' < b.length∧(List.range n).map (fun j=>cyc a (i + j))=(List.range n).map fun j=>cyc b (i' + j):=by
    intro a b d hb e i
    refine ⟨(i + d) % b.length,Nat.mod_lt _ hb,List.map_congr_left fun j _=>?_⟩
    rw[e (i + j)]
    unfold cyc
    rw[Nat.mod_add_mod]
    congr 2
    omega
  constructor
  · rintro ⟨i,hi,rfl⟩
    obtain ⟨i',h2,h3⟩:=go h1 h i
    exact ⟨i',h2,h3⟩
  · rintro ⟨i,hi,rfl⟩
    obtain ⟨i',h2,h3⟩:=go h1' h' i
    exact ⟨i',h2,h3⟩
theorem rep_iff {l:List Nat} {s:Nat} (hs:1≤s) (hn:s≤l.length):isRep l s=true↔s∣l.length∧∀ k,cyc l k=cyc (l.take s) k:=by
  have ht:(l.take s).length=s:=by rw[List.length_take];omega
  have hq:((l.length:Int) / (s:Nat)).toNat=l.length / s:=by
    have e:(l.length:Int) / (s:Nat)=((l.length / s:Nat):Int):=(Int.natCast_ediv _ _).symm
    rw[e];exact Int.toNat_natCast _
  unfold isRep repT
  rw[decide_eq_true_iff,hq]
  constructor
  · intro e
    have hl:=congrArg List.length e
    rw[rep_len,ht] at hl
    have hd:s∣l.length:=⟨l.length / s,by rw[Nat.mul_comm];exact hl.symm⟩
    refine ⟨hd,fun k=>?_⟩
    have hm:k % l.length < l.length:=Nat.mod_lt _ (by omega)
    have a1:=rep_at (l:=l.take s) (n:=l.length / s) (k:=k % l.length) (by rw[ht,hl];exact hm)
    rw[e,cyc_at hm,cyc_mod] at a1
    have a2:cyc (l.take s) (k % l.length)=cyc (l.take s) k:=by
      unfold cyc
      rw[ht,Nat.mod_mod_of_dvd _ hd]
    rw[←a2]
    exact Option.some.inj a1
  · rintro ⟨⟨c,hc⟩,h⟩
    have hdiv:l.length / s=c:=by rw[hc];exact Nat.mul_div_cancel_left c hs
    have hlen:((List.replicate (l.length / s) (l.take s)).flatten).length=l.length:=by rw[rep_len,ht,hdiv,Nat.mul_comm];exact hc.symm
    apply List.ext_getElem?
    intro i
    by_cases hi:i < l.length
    · rw[rep_at (by rw[rep_len] at hlen;rw[hlen];exact hi),cyc_at hi,h i]
    · rw[List.getElem?_eq_none (by rw[hlen];omega),List.getElem?_eq_none (by omega)]
theorem per_iff {l:List Nat} {s:Nat} (hs:1≤s) (hn:s≤l.length):isRep l s=true↔s∣l.length∧∀ k,cyc l (k + s)=cyc l k:=by
  have ht:(l.take s).length=s:=by rw[List.length_take];omega
  rw[rep_iff hs hn]
  constructor
  · rintro ⟨hd,h⟩
    refine ⟨hd,fun k=>?_⟩
    have:=cyc_period (l.take s) k
    rw[ht] at this
    rw[h,h,this]
  · rintro ⟨hd,h⟩
    refine ⟨hd,fun k=>?_⟩
    have hmul:∀ c k,cyc l (k + s * c)=cyc l k:=by
      intro c
      induction c with
      | zero=>intro k;rfl
      | succ c ih=>
        intro k
        rw[Nat.mul_succ,←Nat.add_assoc,h,ih]
    have e1:=hmul (k / s) (k % s)
    rw[Nat.mod_add_div] at e1
    have hk:k % s < s:=Nat.mod_lt _ hs
    have e2:cyc (l.take s) k=cyc l (k % s):=by
      have a1:=cyc_at (l:=l.take s) (i:=k % s) (by rw[ht];exact hk)
      rw[List.getElem?_take_of_lt hk,cyc_at (by omega)] at a1
      have a2:=cyc_mod (l.take s) k
      rw[ht] at a2
      rw[←a2]
      exact (Option.some.inj a1).symm
    rw[e1,e2]
theorem rep_self {l:List Nat} (h1:1≤l.length):isRep l l.length=true:=(per_iff h1 (Nat.le_refl _)).mpr ⟨Nat.dvd_refl _,cyc_period l⟩
theorem rootLen_spec {l:List Nat} (h1:1≤l.length):1≤rootLen l∧rootLen l≤l.length∧isRep l (rootLen l)=true∧∀ s,1≤s→s < rootLen l→isRep l s=false:=by
  unfold rootLen
  cases e:(List.range l.length).find? fun s=>decide (1≤s)&&isRep l s with
  | none=>
    refine ⟨h1,Nat.le_refl _,rep_self h1,fun s a b=>?_⟩
    have:=List.find?_eq_none.mp e s (List.mem_range.mpr b)
    simpa [a] using this
  | some r=>
    have hr:=List.find?_some e
    have hm:=List.mem_range.mp (List.mem_of_find?_eq_some e)
    rw[Bool.and_eq_true,decide_eq_true_iff] at hr
    refine ⟨hr.1,Nat.le_of_lt hm,hr.2,fun s a b=>?_⟩
    have b':s < r:=b
    have hlt:=List.find?_range_eq_some.mp e
    have:=hlt.2.2 s b'
    simpa [a] using this
theorem rootLen_uniq {l:List Nat} {r:Nat} (h1:1≤l.length) (hr:1≤r) (hn:isRep l r=true) (hle:r≤l.length) (hm:∀ s,1≤s→s < r→isRep l s=false):rootLen l=r:=by
  obtain ⟨a,b,c,d⟩:=rootLen_spec h1
  rcases Nat.lt_trichotomy (rootLen l) r with h | h | h
  · rw[hm _ a h] at c;cases c
  · exact h
  · rw[d r hr h] at hn;cases hn
theorem root_len {l:List Nat} (h1:1≤l.length):(rootOf l).length=rootLen l:=by
  unfold rootOf
  rw[List.length_take]
  have:=(rootLen_spec h1).2.1
  omega
theorem turn_k {l:List Nat} {b:Int} (h1:1≤l.length):(b % (l.length:Nat)).toNat < l.length∧(((b % (l.length:Nat)).toNat:Nat):Int)=b % (l.length:Nat):=by
  have a:=Int.emod_nonneg b (show ((l.length:Nat):Int)≠0 by omega)
  have c:=Int.emod_lt_of_pos b (show (0:Int) < (l.length:Nat) by omega)
  omega
theorem turn_len {l:List Nat} {b:Int} (h1:1≤l.length):(turnL l b).length=l.length:=by
  have:=(turn_k (b:=b) h1).1
  unfold turnL
  rw[List.length_append,List.length_drop,List.length_take]
  omega
theorem turn_cyc {l:List Nat} {b:Int} (h1:1≤l.length) (i:Nat):cyc (turnL l b) i=cyc l (i + (b % (l.length:Nat)).toNat):=by
  have hk:=(turn_k (b:=b) h1).1
  have hl:=turn_len (b:=b) h1
  have hm:i % l.length < l.length:=Nat.mod_lt _ (by omega)
  have a1:=cyc_at (l:=turnL l b) (i:=i % l.length) (by rw[hl];exact hm)
  have a2:=cyc_mod (turnL l b) i
  rw[hl] at a2
  rw[a2] at a1
  have a3:cyc l (i + (b % (l.length:Nat)).toNat)=cyc l (i % l.length + (b % (l.length:Nat)).toNat):=by
    unfold cyc
    rw[Nat.mod_add_mod]
  have key:∀ k,k < l.length→∀ r,r < l.length→(l.drop k++l.take k)[r]?=some (cyc l (r + k)):=by
    intro k hk r hr
    by_cases h:r < l.length - k
    · rw[List.getElem?_append_left (by rw[List.length_drop];exact h),List.getElem?_drop,cyc_at (by omega),Nat.add_comm]
    · rw[List.getElem?_append_right (by rw[List.length_drop];omega),List.length_drop,List.getElem?_take_of_lt (by omega),cyc_at (by omega)]
      have e:=cyc_period l (r - (l.length - k))
      have e2:r - (l.length - k) + l.length=r + k:=by omega
      rw[e2] at e
      rw[e]
  have a4:(turnL l b)[i % l.length]?=some (cyc l (i % l.length + (b % (l.length:Nat)).toNat)):=key _ hk _ hm
  rw[a3]
  exact Option.some.inj (a1.symm.trans a4)
theorem turn_back {l:List Nat} {b:Int} (h1:1≤l.length) (i:Nat):cyc l i=cyc (turnL l b) (i + (l.length - (b % (l.length:Nat)).toNat)):=by
  have hk:=(turn_k (b:=b) h1).1
  rw[turn_cyc h1]
  have e:i + (l.length - (b % (l.length:Nat)).toNat) + (b % (l.length:Nat)).toNat=i + l.length:=by omega
  rw[e,cyc_period]
theorem ringWords_turn {l:List Nat} {n:Nat} {b:Int} (h1:1≤l.length):ringWords (turnL l b) n=ringWords l n:=
  ringWords_of h1 (by rw[turn_len h1];exact h1) (turn_cyc h1) (turn_back h1)
theorem rep_turn {l:List Nat} {b:Int} {s:Nat} (h1:1≤l.length) (hs:1≤s) (hn:s≤l.length):isRep (turnL l b) s=isRep l s:=by
  rw[Bool.eq_iff_iff,per_iff hs (by rw[turn_len h1];exact hn),per_iff hs hn,turn_len h1]
  have hk:=(turn_k (b:=b) h1).1
  refine and_congr_right fun _=>⟨fun h k=>?_,fun h k=>?_⟩
  · rw[turn_back (b:=b) h1 (k + s),turn_back (b:=b) h1 k]
    have e:k + s + (l.length - (b % (l.length:Nat)).toNat)=k + (l.length - (b % (l.length:Nat)).toNat) + s:=by omega
    rw[e];exact h _
  · rw[turn_cyc h1,turn_cyc h1]
    have e:k + s + (b % (l.length:Nat)).toNat=k + (b % (l.length:Nat)).toNat + s:=by omega
    rw[e];exact h _
theorem rootLen_turn {l:List Nat} {b:Int} (h1:1≤l.length):rootLen (turnL l b)=rootLen l:=by
  obtain ⟨x,y,c,d⟩:=rootLen_spec h1
  exact rootLen_uniq (by rw[turn_len h1];exact h1) x (by rw[rep_turn h1 x y];exact c) (by rw[turn_len h1];exact y) fun s hs hlt=>by rw[rep_turn h1 hs (by omega)];exact d s hs hlt
theorem mem_cyc {l:List Nat} (h1:1≤l.length) (i:Nat):cyc l i∈l:=by
  have hm:i % l.length < l.length:=Nat.mod_lt _ h1
  have:=cyc_at hm
  rw[cyc_mod] at this
  exact List.mem_of_getElem? this
theorem mem_of_cyc {l x:List Nat} {k:Nat} (h1:1≤l.length) (h:∀ i,cyc x i=cyc l (i + k)) {y:Nat} (hy:y∈x):y∈l:=by
  rw[list_of_cyc x] at hy
  obtain ⟨i,_,rfl⟩:=List.mem_map.mp hy
  rw[h];exact mem_cyc h1 _
theorem root_mem {l:List Nat} {y:Nat} (hy:y∈rootOf l):y∈l:=List.mem_of_mem_take hy
theorem turn_mem {l:List Nat} {b:Int} (h1:1≤l.length) {y:Nat} (hy:y∈turnL l b):y∈l:=mem_of_cyc h1 (turn_cyc h1) hy
end L2
set_option Elab.async false
set_option linter.all false
set_option maxRecDepth 100000
namespace L2
open PySem PySem.Spec PyProof.Rows
open PySem.W (Frag)
def AtW (l w:List Nat) (i:Nat):Prop:=i + w.length≤l.length∧(l.drop i).take w.length=w
def Inf (w l:List Nat):Prop:=∃ i,AtW l w i
theorem subAt_iff (l w:List Nat) (i:Nat):StrLaws.At ⟨l.toArray⟩ ⟨w.toArray⟩ (⟨l.toArray⟩:Str).length i↔AtW l w i:=by
  have e1:(⟨l.toArray⟩:Str).length=l.length:=txlen l
  have e2:(⟨w.toArray⟩:Str).length=w.length:=txlen w
  unfold StrLaws.At AtW Builtin.Str.subAt
  rw[e1,e2]
  refine and_congr_right fun h=>?_
  have e3:l.toArray.extract i (i + w.length)=((l.drop i).take w.length).toArray:=by
    apply Array.ext'
    simp only[List.extract_toArray,List.extract_eq_take_drop]
    have:i + w.length - i=w.length:=by omega
    rw[this]
  show (l.toArray.extract i (i + w.length) == w.toArray)=true↔_
  rw[e3,beq_iff_eq]
  exact ⟨fun z=>by simpa using congrArg Array.toList z,fun z=>by rw[z]⟩
theorem AtW.nil (l:List Nat):AtW l [] 0:=⟨by simp,by simp⟩
theorem Inf.nil (l:List Nat):Inf [] l:=⟨0,AtW.nil l⟩
theorem Inf.len {w l:List Nat} (h:Inf w l):w.length≤l.length:=by obtain ⟨i,h,_⟩:=h;omega
theorem Inf.mem {w l:List Nat} (h:Inf w l) {c:Nat} (hc:c∈w):c∈l:=by
  obtain ⟨i,_,h⟩:=h
  rw[←h] at hc
  exact List.mem_of_mem_drop (List.mem_of_mem_take hc)
theorem Inf.refl (l:List Nat):Inf l l:=⟨0,by simp,by simp⟩
theorem AtW.trans {u v w:List Nat} {i j:Nat} (h1:AtW v u i) (h2:AtW w v j):AtW w u (j + i):=by
  obtain ⟨a1,b1⟩:=h1
  obtain ⟨a2,b2⟩:=h2
  refine ⟨by omega,?_⟩
  have e:(w.drop (j + i)).take u.length=((((w.drop j).take v.length).drop i).take u.length):=by
    rw[List.drop_take,List.drop_drop,List.take_take]
    congr 1
    omega
  rw[e,b2,b1]
theorem Inf.trans {u v w:List Nat} (h1:Inf u v) (h2:Inf v w):Inf u w:=by
  obtain ⟨i,h1⟩:=h1
  obtain ⟨j,h2⟩:=h2
  exact ⟨_,h1.trans h2⟩
theorem inf_tail (w:List Nat):Inf w.tail w:=by
  cases w with
  | nil=>exact Inf.nil _
  | cons c w=>exact ⟨1,by simp;omega,by simp⟩
theorem inf_init (w:List Nat):Inf w.dropLast w:=⟨0,by simp,by rw[List.drop_zero,List.length_dropLast,List.dropLast_eq_take]⟩
theorem mem_wordsOf {l x:List Nat} {n:Nat} (hn:n≤l.length + 1):x∈wordsOf l n↔x.length=n∧Inf x l:=by
  unfold wordsOf
  rw[(sortT_perm _).mem_iff,mem_ddl,List.mem_map]
  constructor
  · rintro ⟨i,hi,rfl⟩
    have hi:=List.mem_range.mp hi
    have hl:((l.drop i).take n).length=n:=by rw[List.length_take,List.length_drop];omega
    exact ⟨hl,i,by omega,by rw[hl]⟩
  · rintro ⟨rfl,i,h1,h2⟩
    exact ⟨i,List.mem_range.mpr (by omega),h2⟩
def lackP (sh st:List (List Nat)) (h:List Nat) (c:Nat):Bool:=decide ((h++[c]).tail∈sh)&&!decide (h++[c]∈st)
def lackH (sh st:List (List Nat)) (m h:List Nat):List (List Nat):=(m.filter (lackP sh st h)).map fun c=>h++[c]
def lackA (sh st:List (List Nat)) (m:List Nat):List (List Nat):=sh.flatMap (lackH sh st m)
def lackTo (l m:List Nat) (i:Nat):List (List Nat):=(List.range i).flatMap fun k=>lackA (wordsOf l k) (wordsOf l (k + 1)) m
def lackOf (l m:List Nat):List (List Nat):=lackTo l m (l.length + 1)
theorem lackH_len (sh st:List (List Nat)) (m h:List Nat):(lackH sh st m h).length≤m.length:=by unfold lackH;rw[List.length_map];exact List.length_filter_le _ _
theorem flatMap_len {α β:Type} {f:α→List β} {b:Nat} (h:∀ x,(f x).length≤b):∀ l:List α,(l.flatMap f).length≤l.length * b
  | []=>by simp
  | x :: l=>by
    rw[List.flatMap_cons,List.length_append,List.length_cons,Nat.succ_mul]
    have:=h x
    have:=flatMap_len h l
    omega
theorem lackA_len (sh st:List (List Nat)) (m:List Nat):(lackA sh st m).length≤sh.length * m.length:=flatMap_len (lackH_len sh st m) sh
theorem mem_lackA {sh st:List (List Nat)} {m w:List Nat}:w∈lackA sh st m↔∃ h c,h∈sh∧c∈m∧w=h++[c]∧w.tail∈sh∧w∉st:=by
  unfold lackA lackH lackP
  simp only[List.mem_flatMap,List.mem_map,List.mem_filter,Bool.and_eq_true,Bool.not_eq_true',decide_eq_true_iff,decide_eq_false_iff_not]
  constructor
  · rintro ⟨h,hh,c,⟨hc,h1,h2⟩,rfl⟩;exact ⟨h,c,hh,hc,rfl,h1,h2⟩
  · rintro ⟨h,c,hh,hc,rfl,h1,h2⟩;exact ⟨h,hh,c,⟨hc,h1,h2⟩,rfl⟩
structure Miss (l w:List Nat):Prop where
  ne:w≠[]
  init:Inf w.dropLast l
  tail:Inf w.tail l
  no:¬ Inf w l
theorem mem_lackOf {l m w:List Nat}:w∈lackOf l m↔Miss l w∧∃ c∈m,w.getLast?=some c:=by
  unfold lackOf lackTo
  rw[List.mem_flatMap]
  constructor
  · rintro ⟨k,hk,hw⟩
    have hk:=List.mem_range.mp hk
    obtain ⟨h,c,h1,hc,rfl,h3,h4⟩:=mem_lackA.mp hw
    rw[mem_wordsOf (by omega)] at h1 h3
    refine ⟨⟨by simp,by simpa using h1.2,h3.2,fun z=>h4 ((mem_wordsOf (by omega)).mpr ⟨by simp [h1.1],z⟩)⟩,c,hc,by simp⟩
  · rintro ⟨⟨ne,hi,ht,hn⟩,c,hc,hl⟩
    have e:w.dropLast++[c]=w:=by
      rw[List.getLast?_eq_some_getLast ne] at hl
      have h:=List.dropLast_concat_getLast ne
      rw[Option.some.inj hl] at h
      exact h
    have hlen:w.dropLast.length=w.length - 1:=List.length_dropLast
    have h1:1≤w.length:=List.length_pos_iff.mpr ne
    refine ⟨w.length - 1,List.mem_range.mpr (by have:=hi.len;omega),mem_lackA.mpr ⟨w.dropLast,c,?_,hc,e.symm,?_,?_⟩⟩
    · rw[mem_wordsOf (by have:=hi.len;omega)];exact ⟨hlen,hi⟩
    · rw[mem_wordsOf (by have:=hi.len;omega)];exact ⟨List.length_tail,ht⟩
    · rw[mem_wordsOf (by have:=hi.len;omega)];exact fun z=>hn z.2
end L2
set_option Elab.async false
set_option linter.all false
set_option maxRecDepth 100000
namespace L2
open PySem PySem.Spec PyProof.Rows
open PySem.W (Frag)
theorem same_upd3' {H H2:Hp} {e:Addr} {o':HO} (h:H e=none) (s:Same H H2):Same H (upd H2 e o'):=fun b u hb=>by
  have:b≠e:=fun z=>by rw[z,h] at hb;cases hb
  rw[upd_ne this];exact s _ _ hb
section
variable {tt:TT} {te:TE} {Q:VK} {τ0:St} {H:Hp} {K:Frag} {a:Addr} {xs:List V}
theorem CompRun.listL (b:Nat→Bool) (f:Nat→V) (hz:xs.length≤100000) (hx:SqL K H a xs)
    (ht:∀ i H' Q' (h:i < xs.length),Same H H'→(∀ H'',Same H' H''→Q' (b i) H'')→tt (τ0.set 0 (some (xs.getD i .non))) H' Q')
    (he:∀ i H' Q' (h:i < xs.length),b i=true→Same H H'→(∀ H'',Same H' H''→Q' (f i) H'')→te (τ0.set 0 (some (xs.getD i .non))) H' Q')
    (hQ:∀ p H',Same H H'→H p=none→H' p=some (.lst (((List.range xs.length).filter b).map f))→Q (.ref p) H'):CompRun (Itl K a) τ0 (gName 0) tt te H Q:=by
  intro acc ha
  refine ⟨fun i m τ H2=>i≤xs.length∧m=xs.length - i∧(∀ w:Option V,τ.set 0 w=τ0.set 0 w)∧Same H H2∧H2 acc=some (.lst (((List.range i).filter b).map f)),⟨xs.length,Nat.zero_le _,rfl,fun _=>rfl,same_upd ha,upd_same⟩,?_⟩
  rintro i m τ H2 ⟨hi,rfl,hτ,hs,hacc⟩
  by_cases hlt:i < xs.length
  · refine .inr ⟨⟨xs,xs[i],hs.seq hx,by simp [hlt]⟩,fun τ' H'=>(∀ w:Option V,τ'.set 0 w=τ0.set 0 w)∧Same H H'∧H' acc=some (.lst (((List.range (i + 1)).filter b).map f)),fun τ' H' q=>⟨xs.length - (i + 1),by omega,hlt,rfl,q⟩,fun x H3 y=>?_⟩
    obtain ⟨rfl,y⟩:=y
    have ex:x=xs.getD i .non:=by rw[List.getD_eq_getElem?_getD,y xs (hs.seq hx)];rfl
    subst ex
    show tt (τ.set 0 (some (xs.getD i .non))) _ _
    rw[hτ]
    have hτ':∀ w:Option V,(τ0.set 0 (some (xs.getD i .non))).set 0 w=τ0.set 0 w:=fun w=>by rw[List.set_set]
    refine ht i _ _ hlt hs fun H4 s4=>?_
    cases hb:b i with
    | false=>
      rw[if_neg Bool.false_ne_true]
      refine ⟨hτ',hs.trans s4,?_⟩
      rw[s4 _ _ hacc,List.range_succ,List.filter_append]
      simp [hb]
    | true=>
      rw[if_pos rfl]
      refine he i _ _ hlt hb (hs.trans s4) fun H5 s5=>⟨_,s5 _ _ (s4 _ _ hacc),?_,hτ',same_upd3' ha ((hs.trans s4).trans s5),?_⟩
      · rw[List.length_map]
        have:=List.length_filter_le b (List.range i)
        rw[List.length_range] at this
        rw[sizeLine_eq];omega
      · rw[upd_same,List.range_succ,List.filter_append]
        simp [hb]
  · have e:i=xs.length:=by omega
    subst e
    exact .inl ⟨⟨xs,hs.seq hx,Nat.le_refl _⟩,hQ acc H2 hs ha hacc⟩
theorem CompRun.tups (P:Nat→List V→Prop) (hz:xs.length≤100000) (hx:SqL K H a xs)
    (he:∀ i H' Q' (h:i < xs.length),Same H H'→(∀ p vs H'',Same H' H''→H'' p=some (.tup vs)→P i vs→Q' (.ref p) H'')→te (τ0.set 0 (some (xs.getD i .non))) H' Q')
    (hQ:∀ p ys H',Same H H'→H p=none→H' p=some (.lst ys)→ys.length=xs.length→(∀ i y,ys[i]?=some y→∃ t vs,y=.ref t∧H' t=some (.tup vs)∧P i vs)→Q (.ref p) H'):CompRun (Itl K a) τ0 (gName 0) tAll te H Q:=by
  intro acc ha
  refine ⟨fun i m τ H2=>i≤xs.length∧m=xs.length - i∧(∀ w:Option V,τ.set 0 w=τ0.set 0 w)∧Same H H2∧∃ ys,H2 acc=some (.lst ys)∧ys.length=i∧∀ i y,ys[i]?=some y→∃ t vs,y=.ref t∧H2 t=some (.tup vs)∧P i vs,
    ⟨xs.length,Nat.zero_le _,rfl,fun _=>rfl,same_upd ha,[],upd_same,rfl,fun i y h=>by simp at h⟩,?_⟩
  rintro i m τ H2 ⟨hi,rfl,hτ,hs,ys,hacc,hlen,hall⟩
  by_cases hlt:i < xs.length
  · refine .inr ⟨⟨xs,xs[i],hs.seq hx,by simp [hlt]⟩,fun τ' H'=>(∀ w:Option V,τ'.set 0 w=τ0.set 0 w)∧Same H H'∧∃ ys,H' acc=some (.lst ys)∧ys.length=i + 1∧∀ i y,ys[i]?=some y→∃ t vs,y=.ref t∧H' t=some (.tup vs)∧P i vs,fun τ' H' q=>⟨xs.length - (i + 1),by omega,hlt,rfl,q⟩,fun x H3 y=>?_⟩
    obtain ⟨rfl,y⟩:=y
    have ex:x=xs.getD i .non:=by rw[List.getD_eq_getElem?_getD,y xs (hs.seq hx)];rfl
    subst ex
    unfold gName tAll
    dsimp only
    rw[if_pos rfl,hτ]
    have hτ':∀ w:Option V,(τ0.set 0 (some (xs.getD i .non))).set 0 w=τ0.set 0 w:=fun w=>by rw[List.set_set]
    refine he i _ _ hlt hs fun p vs H5 s5 hp hP=>⟨ys,s5 _ _ hacc,by rw[hlen,sizeLine_eq];omega,hτ',same_upd3' ha (hs.trans s5),ys++[.ref p],upd_same,by simp [hlen],fun j z hz'=>?_⟩
    have ne:∀ {t:Addr} {us:List V},H5 t=some (.tup us)→t≠acc:=fun h e=>by rw[e,s5 _ _ hacc] at h;cases h
    by_cases hj:j < ys.length
    · rw[List.getElem?_append_left hj] at hz'
      obtain ⟨t,us,rfl,h1,h2⟩:=hall j z hz'
      have h1':=s5 _ _ h1
      exact ⟨t,us,rfl,by rw[upd_ne (ne h1')];exact h1',h2⟩
    · rw[List.getElem?_append_right (by omega)] at hz'
      have hj':j - ys.length=0:=by
        rcases Nat.eq_zero_or_pos (j - ys.length) with h | h
        · exact h
        · rw[List.getElem?_eq_none (by simp;omega)] at hz';cases hz'
      rw[hj'] at hz'
      cases hz'
      have:j=i:=by omega
      exact ⟨p,vs,rfl,by rw[upd_ne (ne hp)];exact hp,by rw[this];exact hP⟩
  · have e:i=xs.length:=by omega
    subst e
    exact .inl ⟨⟨xs,hs.seq hx,Nat.le_refl _⟩,hQ acc ys H2 hs ha hacc hlen hall⟩
end
end L2
set_option Elab.async false
set_option linter.all false
set_option maxRecDepth 100000
namespace L2
open PySem PySem.Spec PyProof.Rows
section
variable {X:Cx} {k:Nat} {f C:Addr} {fd:FuncData} {ps:List Str} {sp:Sp} {dvs:List V} {ds:List Value} {x m:Str} {p pos apos:Pos} {e o:Expr} {es:List Expr} {ta:TE} {t:TA}
def tMethx (C:Addr) (m:Str) (sp:Sp) (dvs:List V) (ta:TE) (t:TA):TX:=fun σ H Q E=>ta σ H fun x H1=>∃ a dx fs,x=.ref a∧H1 a=some (.ins C dx fs)∧fs.lookup m=none∧t σ H1 fun vs H2=>sp (x :: (vs++dvs)) H2 Q E
def tMakex (C:Addr) (sp:Sp) (dvs:List V) (t:TA):TX:=fun σ H Q E=>t σ H fun vs H1=>∀ x dx,H1 x=none→H1 dx=none→dx≠x→sp (.ref x :: (vs++dvs)) (upd (upd H1 dx (.own x)) x (.ins C dx [])) (fun v H2=>v=.non∧Q (.ref x) H2) E
end
end L2
set_option Elab.async false
set_option linter.all false
set_option maxRecDepth 100000
namespace L2
open PySem PySem.Spec PyProof.Rows
def EN:XK:=fun _ _ _=>False
theorem pass_no {X:Cx}:Passes (CXr X.prog X.w) X EN:=fun _ _ _ _ _ _ _ ⟨_,_,_,_,_,_,_,_,_,_,_,_,_,_,_,z⟩=>z.elim
section
variable {X:Cx}
def sConsx (t u:TSx):TSx:=fun D Ex σ H=>t { D with nx:=fun σ1 H1=>u D Ex σ1 H1 } Ex σ H
end
end L2
set_option Elab.async false
set_option linter.all false
set_option maxRecDepth 100000
namespace L2
open PySem PySem.Spec PyProof.Rows
open PySem.W (Frag)
def infB (w l:List Nat):Bool:=(List.range (l.length + 1)).any fun i=>decide (i + w.length≤l.length)&&decide ((l.drop i).take w.length=w)
theorem infB_iff {w l:List Nat}:infB w l=true↔Inf w l:=by
  unfold infB Inf AtW
  rw[List.any_eq_true]
  constructor
  · rintro ⟨i,_,h⟩
    rw[Bool.and_eq_true,decide_eq_true_eq,decide_eq_true_eq] at h
    exact ⟨i,h⟩
  · rintro ⟨i,h1,h2⟩
    refine ⟨i,List.mem_range.mpr (by omega),?_⟩
    rw[Bool.and_eq_true,decide_eq_true_eq,decide_eq_true_eq]
    exact ⟨h1,h2⟩
theorem found_tx (w l:List Nat):(!(Builtin.Str.occurrences ⟨l.toArray⟩ ⟨w.toArray⟩ 0 (⟨l.toArray⟩:Str).length 1).isEmpty)=infB w l:=by
  rw[Bool.eq_iff_iff,StrLaws.found_iff,infB_iff]
  exact ⟨fun ⟨i,h⟩=>⟨i,(subAt_iff l w i).mp h⟩,fun ⟨i,h⟩=>⟨i,(subAt_iff l w i).mpr h⟩⟩
section
variable {X:Cx}
theorem op_in_tx:OpR X (compareOp .In) (fun x y H Q=>∃ w l,x=tx w∧y=tx l∧Q (.bl (infB w l)) H):=by
  rintro pins s σ H x y v u Q I rx ry ⟨w,l,rfl,rfl,q⟩
  refine op_in_str pins s σ H _ _ v u Q I rx ry ⟨_,_,rfl,rfl,?_⟩
  rw[found_tx];exact q
end
end L2
set_option Elab.async false
set_option linter.all false
set_option maxRecDepth 100000
namespace L2
open PySem PySem.Spec PyProof.Rows
def BefW (a b:List Nat):Prop:=a.length < b.length∨(a.length=b.length∧a < b)
theorem lt_append:∀ {a b:List Nat} {x y:List Nat},a.length=b.length→a < b→a++x < b++y
  | [],[],_,_,_,h=>by cases h
  | [],_ :: _,_,_,e,_=>by simp at e
  | _ :: _,[],_,_,e,_=>by simp at e
  | c :: a,d :: b,x,y,e,h=>by
    rw[List.cons_append,List.cons_append]
    cases h with
    | rel h=>exact List.Lex.rel h
    | cons h=>exact List.Lex.cons (lt_append (by simpa using e) h)
theorem lt_snoc:∀ (a:List Nat) {c d:Nat},c < d→a++[c] < a++[d]
  | [],_,_,h=>List.Lex.rel h
  | _ :: a,_,_,h=>List.Lex.cons (lt_snoc a h)
theorem lt_tri:∀ (a b:List Nat),a < b∨a=b∨b < a
  | [],[]=>.inr (.inl rfl)
  | [],_ :: _=>.inl .nil
  | _ :: _,[]=>.inr (.inr .nil)
  | c :: a,d :: b=>by
    rcases Nat.lt_trichotomy c d with h | h | h
    · exact .inl (List.Lex.rel h)
    · subst h
      rcases lt_tri a b with h | h | h
      · exact .inl (List.Lex.cons h)
      · exact .inr (.inl (by rw[h]))
      · exact .inr (.inr (List.Lex.cons h))
    · exact .inr (.inr (List.Lex.rel h))
theorem befW_irr {a:List Nat}:¬ BefW a a:=fun h=>h.elim (fun h=>Nat.lt_irrefl _ h) fun h=>List.lt_irrefl _ h.2
end L2
set_option Elab.async false
set_option linter.all false
set_option maxRecDepth 100000
namespace L2
open PySem PySem.Spec PyProof.Rows
def gal:Bool→Keyed→Array Keyed→Nat→Nat→Nat→StateT SortSt Sem (Option Nat):=sortPriv% PySem.Builtin.gallop
def galB (bey:Nat→StateT SortSt Sem (Option Bool)) (n h:Nat):StateT SortSt Sem (Option Nat):=do
    let mut la:=0
    let mut o:=1
    let mut lo:=0
    let mut hi:=0
    let some rt ←bey h | return none
    if rt then
      let mx:=n - h
      for _ in [0:n] do
        if o≥mx then break
        let some mo ←bey (h + o) | return none
        if !mo then break
        la:=o
        o:=2 * o + 1
      lo:=h + la + 1
      hi:=h + min o mx
    else
      let mx:=h + 1
      for _ in [0:n] do
        if o≥mx then break
        let some fo ←bey (h - o) | return none
        if fo then break
        la:=o
        o:=2 * o + 1
      lo:=h + 1 - min o mx
      hi:=h - la
    for _ in [0:n] do
      if lo≥hi then break
      let m:=lo + (hi - lo) / 2
      let some mo ←bey m | return none
      if mo then lo:=m + 1 else hi:=m
    return some hi
def beyOf (lf:Bool) (ky:Keyed) (ar:Array Keyed) (bs:Nat) (i:Nat):StateT SortSt Sem (Option Bool):=do
  let x ←elem' ar (bs + i)
  if lf then lt' x ky else return (←lt' ky x).map (!·)
theorem gal_eq (lf:Bool) (ky:Keyed) (ar:Array Keyed) (bs n h:Nat):gal lf ky ar bs n h=galB (beyOf lf ky ar bs) n h:=rfl
def galT (bey:Nat→StateT SortSt Sem (Option Bool)) (n l0 h0:Nat):StateT SortSt Sem (Option Nat):=do
    let mut lo:=l0
    let mut hi:=h0
    for _ in [0:n] do
      if lo≥hi then break
      let m:=lo + (hi - lo) / 2
      let some mo ←bey m | return none
      if mo then lo:=m + 1 else hi:=m
    return some hi
section
variable {M:Model} {A:Around} {E:Value→Shared→Prop} {s:Shared} {bey:Nat→StateT SortSt Sem (Option Bool)} {B:Nat→Bool} {n h:Nat} {st:SortSt} {Q:Option Nat→SortSt→Prop}
def Parts (B:Nat→Bool) (n lo hi:Nat):Prop:=(∀ i,i < lo→B i=true)∧∀ i,hi≤i→i < n→B i=false
theorem galT_ok {lo hi:Nat} (hb:∀ i (Q:Option Bool→SortSt→Prop),i < n→Q (some (B i)) st→wpS M A E s (bey i) Q st) (mono:∀ i j,i≤j→j < n→B j=true→B i=true) (h1:lo≤hi) (h2:hi≤n) (hp:Parts B n lo hi)
    (q:∀ k,k≤n→Parts B n k k→Q (some k) st):wpS M A E s (galT bey n lo hi) Q st:=by
  unfold galT
  refine wpS_bind (wpS_mono (wpS_forRange (I:=fun i c st'=>st'=st∧∃ lo hi,c=(none,lo,hi)∧lo≤hi∧hi≤n∧hi - lo≤n - i∧Parts B n lo hi) (Q:=fun c st'=>st'=st∧∃ k,c=(none,k,k)∧k≤n∧Parts B n k k) ?step ?fin ⟨rfl,lo,hi,rfl,h1,h2,by omega,hp⟩) ?post)
  case step=>
    rintro i c st' _ hi' ⟨rfl,lo,hi,rfl,h1,h2,h3,hp⟩
    dsimp only
    by_cases hl:lo≥hi
    · have e:lo=hi:=by omega
      subst e
      rw[if_pos hl]
      exact wpS_pure ⟨rfl,lo,rfl,h2,hp⟩
    · rw[if_neg hl]
      have hm1:lo≤lo + (hi - lo) / 2:=by omega
      have hm2:lo + (hi - lo) / 2 < hi:=by omega
      generalize lo + (hi - lo) / 2=m at hm1 hm2
      refine wpS_bind (hb m _ (by omega) ?_)
      cases hB:B m with
      | true=>exact wpS_pure ⟨rfl,m + 1,hi,rfl,by omega,h2,by omega,fun i hi=>mono i m (by omega) (by omega) hB,hp.2⟩
      | false=>
        refine wpS_pure ⟨rfl,lo,m,rfl,by omega,by omega,by omega,hp.1,fun i hi hn=>?_⟩
        cases hx:B i with
        | false=>rfl
        | true=>rw[mono m i hi hn hx] at hB;cases hB
  case fin=>
    rintro c st' ⟨rfl,lo,hi,rfl,h1,h2,h3,hp⟩
    have e:lo=hi:=by omega
    subst e
    exact ⟨rfl,lo,rfl,h2,hp⟩
  case post=>
    rintro c st' ⟨rfl,k,rfl,hk,hp⟩
    exact wpS_pure (q k hk hp)
theorem galB_ok (hh:h < n)
    (hb:∀ i (Q:Option Bool→SortSt→Prop),i < n→Q (some (B i)) st→wpS M A E s (bey i) Q st) (mono:∀ i j,i≤j→j < n→B j=true→B i=true)
    (q:∀ k,k≤n→Parts B n k k→Q (some k) st):wpS M A E s (galB bey n h) Q st:=by
  have anti:∀ {i j},B i=false→i≤j→j < n→B j=false:=fun {i j} h1 h2 h3=>by
    cases hx:B j with
    | false=>rfl
    | true=>rw[mono i j h2 h3 hx] at h1;cases h1
  have jp:∀ lo hi,lo≤hi→hi≤n→Parts B n lo hi→wpS M A E s (galT bey n lo hi) Q st:=fun lo hi a b c=>galT_ok hb mono a b c q
  unfold galB
  refine wpS_bind (hb h _ hh ?_)
  cases hB:B h with
  | true=>
    dsimp only
    rw[if_pos rfl]
    refine wpS_bind (wpS_mono (wpS_forRange (I:=fun i c st'=>st'=st∧∃ la o,c=(none,la,o)∧i < o∧la < o∧h + la < n∧B (h + la)=true) (Q:=fun c st'=>st'=st∧∃ la o,c=(none,la,o)∧la < o∧h + la < n∧B (h + la)=true∧(n - h≤o∨B (h + o)=false)) ?step ?fin ⟨rfl,0,1,rfl,by omega,by omega,by omega,hB⟩) ?post)
    case step=>
      rintro i c st' _ hi' ⟨rfl,la,o,rfl,h1,h2,h3,h4⟩
      dsimp only
      by_cases hl:o≥n - h
      · rw[if_pos hl]
        exact wpS_pure ⟨rfl,la,o,rfl,h2,h3,h4,.inl hl⟩
      · rw[if_neg hl]
        refine wpS_bind (hb (h + o) _ (by omega) ?_)
        cases hx:B (h + o) with
        | false=>exact wpS_pure ⟨rfl,la,o,rfl,h2,h3,h4,.inr hx⟩
        | true=>exact wpS_pure ⟨rfl,o,2 * o + 1,rfl,by omega,by omega,by omega,hx⟩
    case fin=>
      rintro c st' ⟨rfl,la,o,rfl,h1,h2,h3,h4⟩
      exact ⟨rfl,la,o,rfl,h2,h3,h4,.inl (by omega)⟩
    case post=>
      rintro c st' ⟨rfl,la,o,rfl,h2,h3,h4,h5⟩
      refine jp (h + la + 1) (h + min o (n - h)) (by omega) (by omega) ⟨fun i hi=>mono i (h + la) (by omega) h3 h4,fun i hi hn=>?_⟩
      rcases h5 with h5 | h5
      · omega
      · exact anti h5 (by omega) hn
  | false=>
    dsimp only
    rw[if_neg Bool.false_ne_true]
    refine wpS_bind (wpS_mono (wpS_forRange (I:=fun i c st'=>st'=st∧∃ la o,c=(none,la,o)∧i < o∧la < o∧la≤h∧B (h - la)=false) (Q:=fun c st'=>st'=st∧∃ la o,c=(none,la,o)∧la < o∧la≤h∧B (h - la)=false∧(h + 1≤o∨(o≤h∧B (h - o)=true))) ?step2 ?fin2 ⟨rfl,0,1,rfl,by omega,by omega,by omega,hB⟩) ?post2)
    case step2=>
      rintro i c st' _ hi' ⟨rfl,la,o,rfl,h1,h2,h3,h4⟩
      dsimp only
      by_cases hl:o≥h + 1
      · rw[if_pos hl]
        exact wpS_pure ⟨rfl,la,o,rfl,h2,h3,h4,.inl hl⟩
      · rw[if_neg hl]
        refine wpS_bind (hb (h - o) _ (by omega) ?_)
        cases hx:B (h - o) with
        | true=>exact wpS_pure ⟨rfl,la,o,rfl,h2,h3,h4,.inr ⟨by omega,hx⟩⟩
        | false=>exact wpS_pure ⟨rfl,o,2 * o + 1,rfl,by omega,by omega,by omega,hx⟩
    case fin2=>
      rintro c st' ⟨rfl,la,o,rfl,h1,h2,h3,h4⟩
      exact ⟨rfl,la,o,rfl,h2,h3,h4,.inl (by omega)⟩
    case post2=>
      rintro c st' ⟨rfl,la,o,rfl,h2,h3,h4,h5⟩
      refine jp (h + 1 - min o (h + 1)) (h - la) (by omega) (by omega) ⟨fun i hi=>?_,fun i hi hn=>anti h4 hi hn⟩
      rcases h5 with h5 | ⟨h5,h6⟩
      · omega
      · exact mono i (h - o) (by omega) (by omega) h6
end
end L2
set_option Elab.async false
set_option linter.all false
set_option maxRecDepth 100000
namespace L2
open PySem PySem.Spec PyProof.Rows
structure Cmp (D:Keyed→Prop) (L:Keyed→Keyed→Bool):Prop where
  asym:∀ x y,D x→D y→L x y=true→L y x=false
  tr:∀ x y z,D x→D y→D z→L y x=false→L z y=false→L z x=false
abbrev Le (L:Keyed→Keyed→Bool) (x y:Keyed):Prop:=L y x=false
structure MS (D:Keyed→Prop) (L:Keyed→Keyed→Bool) (T:List Keyed) (o x y:List Keyed):Prop where
  perm:(o++(x++y)).Perm T
  so:o.Pairwise (Le L)
  ox:∀ u∈o,∀ v∈x,Le L u v
  oy:∀ u∈o,∀ v∈y,Le L u v
  sx:x.Pairwise (Le L)
  sy:y.Pairwise (Le L)
section
variable {D:Keyed→Prop} {L:Keyed→Keyed→Bool} {T o x y p:List Keyed}
theorem MS.movX (h:MS D L T o (p++x) y) (hp:∀ u∈p,∀ v∈y,Le L u v):MS D L T (o++p) x y:=by
  obtain ⟨h1,h2,h3,h4,h5,h6⟩:=h
  rw[List.pairwise_append] at h5
  refine ⟨by simpa [List.append_assoc] using h1,List.pairwise_append.mpr ⟨h2,h5.1,fun u hu v hv=>h3 u hu v (by simp [hv])⟩,?_,?_,h5.2.1,h6⟩
  · intro u hu v hv
    rcases List.mem_append.mp hu with hu | hu
    · exact h3 u hu v (by simp [hv])
    · exact h5.2.2 u hu v hv
  · intro u hu v hv
    rcases List.mem_append.mp hu with hu | hu
    · exact h4 u hu v hv
    · exact hp u hu v hv
theorem MS.swap (h:MS D L T o x y):MS D L T o y x:=
  ⟨(List.Perm.append_left o List.perm_append_comm).trans h.perm,h.so,h.oy,h.ox,h.sy,h.sx⟩
theorem MS.movY (h:MS D L T o x (p++y)) (hp:∀ u∈p,∀ v∈x,Le L u v):MS D L T (o++p) x y:=(h.swap.movX hp).swap
theorem MS.fin (h:MS D L T o x []):(o++x).Perm T∧(o++x).Pairwise (Le L):=
  ⟨by simpa using h.perm,List.pairwise_append.mpr ⟨h.so,h.sx,h.ox⟩⟩
theorem MS.all (h:MS D L T o x y) (hxy:∀ u∈x,∀ v∈y,Le L u v):(o++x++y).Perm T∧(o++x++y).Pairwise (Le L):=by
  have:=(MS.movX (x:=[]) (by simpa using h) hxy).swap.fin
  simpa using this
end
def mLo:Array Keyed→Array Keyed→StateT SortSt Sem (Array Keyed):=sortPriv% PySem.Builtin.mergeLo
abbrev setGal (st:SortSt) (g:Nat):SortSt:=SortSt.mk' (kindOf st) (arrOf st) (pendingOf st) g (failedOf st)
def setG (g:Nat):StateT SortSt Sem Unit:=modify fun s=>setGal s g
def mLoB (p q:Array Keyed):StateT SortSt Sem (Array Keyed):=do
  rule "list.sort.merge-lo"
  let tt:=p.size + q.size
  let dn (o:Array Keyed) (i j:Nat):=o++p.extract i p.size++q.extract j q.size
  let lp (o:Array Keyed) (i j:Nat):=o++q.extract j q.size++p.extract i p.size
  let mut o:Array Keyed:=#[←elem' q 0]
  let mut i:=0
  let mut j:=1
  if j == q.size then return dn o i j
  if i + 1 == p.size then return lp o i j
  let mut mg:=gallopOf (←get)
  for _ in [0:tt] do
    let mut ca:=0
    let mut cb:=0
    for _ in [0:tt] do
      let some wn ←lt' (←elem' q j) (←elem' p i) | return dn o i j
      if wn then
        o:=o.push (←elem' q j);j:=j + 1;cb:=cb + 1;ca:=0
        if j == q.size then return dn o i j
        if cb≥mg then break
      else
        o:=o.push (←elem' p i);i:=i + 1;ca:=ca + 1;cb:=0
        if i + 1 == p.size then return lp o i j
        if ca≥mg then break
    rule "list.sort.gallop"
    mg:=mg + 1
    for _ in [0:tt] do
      if mg > 1 then mg:=mg - 1
      setG mg
      let some k ←gal false (←elem' q j) p i (p.size - i) 0 | return dn o i j
      ca:=k
      if k > 0 then
        o:=o++p.extract i (i + k);i:=i + k
        if i + 1 == p.size then return lp o i j
        if i == p.size then return dn o i j
      o:=o.push (←elem' q j);j:=j + 1
      if j == q.size then return dn o i j
      let some k ←gal true (←elem' p i) q j (q.size - j) 0 | return dn o i j
      cb:=k
      if k > 0 then
        o:=o++q.extract j (j + k);j:=j + k
        if j == q.size then return dn o i j
      o:=o.push (←elem' p i);i:=i + 1
      if i + 1 == p.size then return lp o i j
      if ca < 7&&cb < 7 then break
    mg:=mg + 1
    setG mg
  unsupported "internal:list.sort.merge-bound"
theorem mLo_eq (p q:Array Keyed):mLo p q=mLoB p q:=rfl
section
variable {M:Model} {A:Around} {E:Value→Shared→Prop} {s:Shared} {D:Keyed→Prop} {L:Keyed→Keyed→Bool} {kd:SortKind}
def PureC (M:Model) (A:Around) (E:Value→Shared→Prop) (s:Shared) (D:Keyed→Prop) (L:Keyed→Keyed→Bool) (kd:SortKind):Prop:=
  ∀ (st:SortSt) (x y:Keyed) (Q:Option Bool→SortSt→Prop),kindOf st=kd→D x→D y→Q (some (L x y)) st→wpS M A E s (lt' x y) Q st
theorem wpS_el {ar:Array Keyed} {i:Nat} {x:Keyed} {Q:Keyed→SortSt→Prop} {st:SortSt} (h:ar[i]?=some x) (q:Q x st):wpS M A E s (elem' ar i) Q st:=by
  rw[elem'_eq,h];exact wpS_pure q
theorem gal_ok (hC:Cmp D L) (hP:PureC M A E s D L kd) {lf:Bool} {ky:Keyed} {ar:Array Keyed} {bs n h:Nat} {st:SortSt} {Q:Option Nat→SortSt→Prop} (hk:kindOf st=kd)
    (hn:bs + n≤ar.size) (hh:h < n) (hy:D ky) (hd:∀ u∈ar.toList,D u) (hs:((ar.toList.drop bs).take n).Pairwise (Le L))
    (q:∀ k,k≤n→(∀ u∈((ar.toList.drop bs).take n).take k,if lf then L u ky=true else Le L u ky)→(∀ u∈((ar.toList.drop bs).take n).drop k,if lf then Le L ky u else L ky u=true)→Q (some k) st):
    wpS M A E s (gal lf ky ar bs n h) Q st:=by
  rw[gal_eq]
  obtain ⟨xs,hxs⟩:∃ xs,xs=(ar.toList.drop bs).take n:=⟨_,rfl⟩
  rw[←hxs] at hs q
  have hlen:xs.length=n:=by rw[hxs,List.length_take,List.length_drop,Array.length_toList];omega
  have hat:∀ i (hi:i < xs.length),ar[bs + i]?=some xs[i]:=by
    intro i hi
    have:xs[i]?=some xs[i]:=List.getElem?_eq_getElem hi
    rw[←this,hxs,List.getElem?_take,if_pos (by omega),List.getElem?_drop,Array.getElem?_toList]
  have hdx:∀ u∈xs,D u:=fun u hu=>hd u (List.mem_of_mem_drop (List.mem_of_mem_take (hxs▸hu)))
  refine galB_ok (B:=fun i=>if hi:i < xs.length then (if lf then L xs[i] ky else !L ky xs[i]) else false) hh ?_ ?_ ?_
  · intro i Q hi hq
    have hi':i < xs.length:=by omega
    rw[dif_pos hi'] at hq
    refine wpS_bind (wpS_el (hat i hi') ?_)
    have hD:=hdx _ (List.getElem_mem hi')
    cases lf with
    | true=>exact hP st _ _ _ hk hD hy hq
    | false=>exact wpS_bind (hP st _ _ _ hk hy hD (wpS_pure hq))
  · intro i j hij hj
    have hj':j < xs.length:=by omega
    have hi':i < xs.length:=by omega
    rw[dif_pos hj',dif_pos hi']
    by_cases e:i=j
    · subst e;exact id
    · have hle:Le L xs[i] xs[j]:=List.pairwise_iff_getElem.mp hs i j hi' hj' (by omega)
      have hDi:=hdx _ (List.getElem_mem hi')
      have hDj:=hdx _ (List.getElem_mem hj')
      cases lf with
      | true=>
        rw[if_pos rfl,if_pos rfl]
        intro h1
        cases h2:L xs[i] ky with
        | true=>rfl
        | false=>rw[hC.tr ky _ _ hy hDi hDj h2 hle] at h1;cases h1
      | false=>
        rw[if_neg Bool.false_ne_true,if_neg Bool.false_ne_true]
        intro h1
        rw[Bool.not_eq_true'] at h1 ⊢
        exact hC.tr _ _ ky hDi hDj hy hle h1
  · intro k hk' hp
    refine q k hk' (fun u hu=>?_) (fun u hu=>?_)
    · obtain ⟨i,hi,rfl⟩:=List.getElem_of_mem hu
      rw[List.length_take] at hi
      have:=hp.1 i (by omega)
      dsimp only at this
      rw[dif_pos (by omega)] at this
      rw[List.getElem_take]
      cases lf with
      | true=>exact this
      | false=>simpa using this
    · obtain ⟨i,hi,rfl⟩:=List.getElem_of_mem hu
      rw[List.length_drop] at hi
      have:=hp.2 (k + i) (by omega) (by omega)
      dsimp only at this
      rw[dif_pos (by omega)] at this
      rw[List.getElem_drop]
      cases lf with
      | true=>exact this
      | false=>simpa using this
end
abbrev LoC:=Option (Array Keyed)×Array Keyed×Nat×Nat×Nat×Nat×Nat
def dnf (p q o:Array Keyed) (i j:Nat):Array Keyed:=o++p.extract i p.size++q.extract j q.size
def lpf (p q o:Array Keyed) (i j:Nat):Array Keyed:=o++q.extract j q.size++p.extract i p.size
def loE (p q o:Array Keyed) (i j mg ca cb:Nat):StateT SortSt Sem (ForInStep LoC):=do
  let e ←elem' p i
  if (i + 1 + 1 == p.size)=true then pure (ForInStep.done (some (lpf p q (o.push e) (i + 1) j),o.push e,i + 1,j,mg,ca,cb))
  else if (decide (ca < 7)&&decide (cb < 7))=true then pure (ForInStep.done (none,o.push e,i + 1,j,mg,ca,cb))
  else pure (ForInStep.yield (none,o.push e,i + 1,j,mg,ca,cb))
def loD (p q o:Array Keyed) (i j mg ca cb:Nat):StateT SortSt Sem (ForInStep LoC):=do
  let e ←elem' q j
  if (j + 1 == q.size)=true then pure (ForInStep.done (some (dnf p q (o.push e) i (j + 1)),o.push e,i,j + 1,mg,ca,cb))
  else do
    let some k ←gal true (←elem' p i) q (j + 1) (q.size - (j + 1)) 0 | pure (ForInStep.done (some (dnf p q (o.push e) i (j + 1)),o.push e,i,j + 1,mg,ca,cb))
    if k > 0 then
      if (j + 1 + k == q.size)=true then pure (ForInStep.done (some (dnf p q (o.push e++q.extract (j + 1) (j + 1 + k)) i (j + 1 + k)),o.push e++q.extract (j + 1) (j + 1 + k),i,j + 1 + k,mg,ca,k))
      else loE p q (o.push e++q.extract (j + 1) (j + 1 + k)) i (j + 1 + k) mg ca k
    else loE p q (o.push e) i (j + 1) mg ca k
def loF (p q o:Array Keyed) (i j mg ca cb:Nat):StateT SortSt Sem (ForInStep LoC):=do
  setG mg
  let some k ←gal false (←elem' q j) p i (p.size - i) 0 | pure (ForInStep.done (some (dnf p q o i j),o,i,j,mg,ca,cb))
  if k > 0 then
    if (i + k + 1 == p.size)=true then pure (ForInStep.done (some (lpf p q (o++p.extract i (i + k)) (i + k) j),o++p.extract i (i + k),i + k,j,mg,k,cb))
    else if (i + k == p.size)=true then pure (ForInStep.done (some (dnf p q (o++p.extract i (i + k)) (i + k) j),o++p.extract i (i + k),i + k,j,mg,k,cb))
    else loD p q (o++p.extract i (i + k)) (i + k) j mg k cb
  else loD p q o i j mg k cb
section
variable {M:Model} {A:Around} {E:Value→Shared→Prop} {s:Shared} {D:Keyed→Prop} {L:Keyed→Keyed→Bool} {kd:SortKind} {p q:Array Keyed} {T:List Keyed} {st:SortSt}
structure LoI (D:Keyed→Prop) (L:Keyed→Keyed→Bool) (p q:Array Keyed) (T:List Keyed) (o:Array Keyed) (i j:Nat):Prop where
  ms:MS D L T o.toList (p.toList.drop i) (q.toList.drop j)
  li:i + 1 < p.size
  lj:j < q.size
def Fin1 (L:Keyed→Keyed→Bool) (T:List Keyed) (z:Array Keyed):Prop:=z.toList.Perm T∧z.toList.Pairwise (Le L)
theorem dropC {p:Array Keyed} {i:Nat} {e:Keyed} (h:p[i]?=some e):p.toList.drop i=e :: p.toList.drop (i + 1):=by
  obtain ⟨hi,rfl⟩:=Array.getElem?_eq_some_iff.mp h
  rw[←Array.getElem_toList]
  exact List.drop_eq_getElem_cons (by simpa using hi)
theorem at? {p:Array Keyed} {i:Nat} (h:i < p.size):∃ e,p[i]?=some e∧e∈p.toList:=⟨p[i],getElem?_pos p i h,by simp⟩
theorem dnf_list (p q o:Array Keyed) (i j:Nat):(dnf p q o i j).toList=o.toList++p.toList.drop i++q.toList.drop j:=by
  unfold dnf;rw[Array.toList_append,Array.toList_append,Array.toList_extract,Array.toList_extract,List.extract,List.extract,List.take_of_length_le (by simp),List.take_of_length_le (by simp)]
theorem lpf_list (p q o:Array Keyed) (i j:Nat):(lpf p q o i j).toList=o.toList++q.toList.drop j++p.toList.drop i:=by
  unfold lpf;rw[Array.toList_append,Array.toList_append,Array.toList_extract,Array.toList_extract,List.extract,List.extract,List.take_of_length_le (by simp),List.take_of_length_le (by simp)]
theorem extr_list (p:Array Keyed) (i k:Nat):(p.extract i (i + k)).toList=(p.toList.drop i).take k:=by
  simp [Array.toList_extract,List.extract]
theorem drop_split (l:List Keyed) (i k:Nat):l.drop i=(l.drop i).take k++l.drop (i + k):=by
  rw[←List.drop_drop,List.take_append_drop]
structure LoH (D:Keyed→Prop) (L:Keyed→Keyed→Bool) (p q:Array Keyed):Prop where
  dp:∀ u∈p.toList,D u
  dq:∀ u∈q.toList,D u
  sp:p.toList.Pairwise (Le L)
  sq:q.toList.Pairwise (Le L)
  last:∀ u∈q.toList,∀ v∈p.toList.drop (p.size - 1),L u v=true
theorem LoH.fin_lp {o:Array Keyed} {i j:Nat} (hH:LoH D L p q) (hC:Cmp D L) (h:MS D L T o.toList (p.toList.drop i) (q.toList.drop j)) (e:i + 1=p.size):Fin1 L T (lpf p q o i j):=by
  unfold Fin1;rw[lpf_list]
  refine h.swap.all fun u hu v hv=>?_
  have hu:=List.mem_of_mem_drop hu
  have e':i=p.size - 1:=by omega
  subst e'
  exact hC.asym _ _ (hH.dq u hu) (hH.dp v (List.mem_of_mem_drop hv)) (hH.last u hu v hv)
theorem fin_dn {o:Array Keyed} {i j:Nat} (h:MS D L T o.toList (p.toList.drop i) (q.toList.drop j)) (e:j=q.size):Fin1 L T (dnf p q o i j):=by
  unfold Fin1;rw[dnf_list]
  have e2:q.toList.drop j=[]:=List.drop_eq_nil_of_le (by simp;omega)
  rw[e2] at h ⊢
  simpa using h.fin
def LoQ (D:Keyed→Prop) (L:Keyed→Keyed→Bool) (p q:Array Keyed) (T:List Keyed) (w:Nat) (c:LoC):Prop:=
  ∃ r o i j mg ca cb,c=(r,o,i,j,mg,ca,cb)∧((∃ z,r=some z∧Fin1 L T z)∨(r=none∧LoI D L p q T o i j∧w≤i + j))
def LoY (D:Keyed→Prop) (L:Keyed→Keyed→Bool) (p q:Array Keyed) (T:List Keyed) (w:Nat) (c:LoC):Prop:=
  ∃ o i j mg ca cb,c=(none,o,i,j,mg,ca,cb)∧LoI D L p q T o i j∧w≤i + j
def LoP (D:Keyed→Prop) (L:Keyed→Keyed→Bool) (p q:Array Keyed) (T:List Keyed) (w:Nat) (st:SortSt) (r:ForInStep LoC) (st':SortSt):Prop:=
  (∃ g,st'=setGal st g)∧match r with | .done c=>LoQ D L p q T w c | .yield c=>LoY D L p q T w c
theorem loE_ok {o:Array Keyed} {i j mg ca cb w g:Nat} (hH:LoH D L p q) (hC:Cmp D L) (hi:i + 1 < p.size) (hj:j < q.size) (hw:w≤i + 1 + j) (h:MS D L T o.toList (p.toList.drop i) (q.toList.drop j))
    (hle:∀ u∈(p.toList.drop i).take 1,∀ v∈q.toList.drop j,Le L u v):wpS M A E s (loE p q o i j mg ca cb) (LoP D L p q T w st) (setGal st g):=by
  obtain ⟨e,he,hm⟩:=at? (p:=p) (i:=i) (by omega)
  have hd:=dropC he
  have h2:MS D L T (o.push e).toList (p.toList.drop (i + 1)) (q.toList.drop j):=by
    rw[Array.toList_push]
    rw[hd] at h hle
    exact MS.movX (p:=[e]) h (fun u hu v hv=>hle u (by simpa using hu) v hv)
  unfold loE
  refine wpS_bind (wpS_el he ?_)
  by_cases c1:i + 1 + 1=p.size
  · rw[if_pos (by simpa using c1)]
    exact wpS_pure ⟨⟨g,rfl⟩,_,_,_,_,_,_,_,rfl,.inl ⟨_,rfl,hH.fin_lp hC h2 c1⟩⟩
  · rw[if_neg (by simpa using c1)]
    have hI:LoI D L p q T (o.push e) (i + 1) j:=⟨h2,by omega,hj⟩
    split
    · exact wpS_pure ⟨⟨g,rfl⟩,_,_,_,_,_,_,_,rfl,.inr ⟨rfl,hI,hw⟩⟩
    · exact wpS_pure ⟨⟨g,rfl⟩,_,_,_,_,_,_,rfl,hI,hw⟩
theorem loD_ok {o:Array Keyed} {i j mg ca cb w g:Nat} (hH:LoH D L p q) (hC:Cmp D L) (hP:PureC M A E s D L kd) (hk:kindOf st=kd) (hi:i + 1 < p.size) (hj:j < q.size) (hw:w≤i + 1 + j) (h:MS D L T o.toList (p.toList.drop i) (q.toList.drop j))
    (hle:∀ u∈(q.toList.drop j).take 1,∀ v∈p.toList.drop i,Le L u v):wpS M A E s (loD p q o i j mg ca cb) (LoP D L p q T w st) (setGal st g):=by
  obtain ⟨e,he,hm⟩:=at? (p:=q) (i:=j) hj
  obtain ⟨x,hx,hxm⟩:=at? (p:=p) (i:=i) (by omega)
  have hd:=dropC he
  have h2:MS D L T (o.push e).toList (p.toList.drop i) (q.toList.drop (j + 1)):=by
    rw[Array.toList_push]
    rw[hd] at h hle
    exact MS.movY (p:=[e]) h (fun u hu v hv=>hle u (by simpa using hu) v hv)
  unfold loD
  refine wpS_bind (wpS_el he ?_)
  by_cases c1:j + 1=q.size
  · rw[if_pos (by simpa using c1)]
    exact wpS_pure ⟨⟨g,rfl⟩,_,_,_,_,_,_,_,rfl,.inl ⟨_,rfl,fin_dn h2 c1⟩⟩
  · rw[if_neg (by simpa using c1)]
    refine wpS_bind (wpS_el hx ?_)
    have et:(q.toList.drop (j + 1)).take (q.size - (j + 1))=q.toList.drop (j + 1):=List.take_of_length_le (by simp)
    refine wpS_bind (gal_ok hC hP (by exact hk) (by omega) (by omega) (hH.dp x hxm) hH.dq (by rw[et];exact h2.sy) ?_)
    rw[et]
    intro k hkn ha hb
    replace ha:∀ u∈(q.toList.drop (j + 1)).take k,L u x=true:=ha
    replace hb:∀ u∈(q.toList.drop (j + 1)).drop k,Le L x u:=hb
    dsimp only
    have hpd:=dropC hx
    have hsx:=h2.sx
    rw[hpd,List.pairwise_cons] at hsx
    have xle:∀ v∈p.toList.drop i,Le L x v:=by
      intro v hv
      rw[hpd] at hv
      rcases List.mem_cons.mp hv with rfl | hv
      · cases hx:L v v with
        | false=>exact hx
        | true=>exact hC.asym v v (hH.dp v hxm) (hH.dp v hxm) hx
      · exact hsx.1 v hv
    have h3:MS D L T (o.push e++q.extract (j + 1) (j + 1 + k)).toList (p.toList.drop i) (q.toList.drop (j + 1 + k)):=by
      rw[Array.toList_append,extr_list]
      rw[drop_split q.toList (j + 1) k] at h2
      refine h2.movY fun u hu v hv=>?_
      have hDu:=hH.dq u (List.mem_of_mem_drop (List.mem_of_mem_take hu))
      exact hC.tr u x v hDu (hH.dp x hxm) (hH.dp v (List.mem_of_mem_drop hv)) (hC.asym u x hDu (hH.dp x hxm) (ha u hu)) (xle v hv)
    have hle2:∀ u∈(p.toList.drop i).take 1,∀ v∈q.toList.drop (j + 1 + k),Le L u v:=by
      intro u hu v hv
      rw[hpd] at hu
      have:u=x:=by simpa using hu
      subst this
      exact hb v (by rwa [List.drop_drop])
    by_cases hk0:k > 0
    · rw[if_pos hk0]
      by_cases c2:j + 1 + k=q.size
      · rw[if_pos (by simpa using c2)]
        exact wpS_pure ⟨⟨g,rfl⟩,_,_,_,_,_,_,_,rfl,.inl ⟨_,rfl,fin_dn h3 c2⟩⟩
      · rw[if_neg (by simpa using c2)]
        exact loE_ok hH hC hi (by omega) (by omega) h3 hle2
    · rw[if_neg hk0]
      have:k=0:=by omega
      subst this
      exact loE_ok hH hC hi (by omega) (by omega) h2 hle2
theorem loF_ok {o:Array Keyed} {i j mg ca cb w g:Nat} (hH:LoH D L p q) (hC:Cmp D L) (hP:PureC M A E s D L kd) (hk:kindOf st=kd) (hw:w≤i + 1 + j) (hI:LoI D L p q T o i j):
    wpS M A E s (loF p q o i j mg ca cb) (LoP D L p q T w st) (setGal st g):=by
  obtain ⟨h,hi,hj⟩:=hI
  obtain ⟨x,hx,hxm⟩:=at? (p:=q) (i:=j) hj
  have hqd:=dropC hx
  have hsy:=h.sy
  rw[hqd,List.pairwise_cons] at hsy
  have xle:∀ v∈q.toList.drop j,Le L x v:=by
    intro v hv
    rw[hqd] at hv
    rcases List.mem_cons.mp hv with rfl | hv
    · cases hx:L v v with
      | false=>exact hx
      | true=>exact hC.asym v v (hH.dq v hxm) (hH.dq v hxm) hx
    · exact hsy.1 v hv
  unfold loF
  refine wpS_bind (wpS_modify ?_)
  refine wpS_bind (wpS_el hx ?_)
  have et:(p.toList.drop i).take (p.size - i)=p.toList.drop i:=List.take_of_length_le (by simp)
  refine wpS_bind (gal_ok hC hP (by exact hk) (by omega) (by omega) (hH.dq x hxm) hH.dp (by rw[et];exact h.sx) ?_)
  rw[et]
  intro k hkn ha hb
  replace ha:∀ u∈(p.toList.drop i).take k,Le L u x:=ha
  replace hb:∀ u∈(p.toList.drop i).drop k,L x u=true:=hb
  dsimp only
  have h3:MS D L T (o++p.extract i (i + k)).toList (p.toList.drop (i + k)) (q.toList.drop j):=by
    rw[Array.toList_append,extr_list]
    rw[drop_split p.toList i k] at h
    refine h.movX fun u hu v hv=>?_
    exact hC.tr u x v (hH.dp u (List.mem_of_mem_drop (List.mem_of_mem_take hu))) (hH.dq x hxm) (hH.dq v (List.mem_of_mem_drop hv)) (ha u hu) (xle v hv)
  have hle2:∀ u∈(q.toList.drop j).take 1,∀ v∈p.toList.drop (i + k),Le L u v:=by
    intro u hu v hv
    rw[hqd] at hu
    have:u=x:=by simpa using hu
    subst this
    have hv':v∈(p.toList.drop i).drop k:=by rwa [List.drop_drop]
    exact hC.asym u v (hH.dq u hxm) (hH.dp v (List.mem_of_mem_drop hv)) (hb v hv')
  have hlast:i + k≠p.size:=by
    intro e
    obtain ⟨y,hy,hym⟩:=at? (p:=p) (i:=p.size - 1) (by omega)
    have hyd:=dropC hy
    have h5:=hH.last x hxm y (by rw[hyd];simp)
    have hy2:y∈(p.toList.drop i).take k:=by
      rw[List.take_of_length_le (by simp;omega)]
      have:y∈p.toList.drop (p.size - 1):=by rw[hyd];simp
      rw[show p.size - 1=i + (p.size - 1 - i) by omega,←List.drop_drop] at this
      exact List.mem_of_mem_drop this
    have h6:=ha y hy2
    rw[show L x y=false from h6] at h5
    cases h5
  by_cases hk0:k > 0
  · rw[if_pos hk0]
    by_cases c2:i + k + 1=p.size
    · rw[if_pos (by simpa using c2)]
      exact wpS_pure ⟨⟨_,rfl⟩,_,_,_,_,_,_,_,rfl,.inl ⟨_,rfl,hH.fin_lp hC h3 c2⟩⟩
    · rw[if_neg (by simpa using c2),if_neg (by simpa using hlast)]
      exact loD_ok hH hC hP hk (by omega) hj (by omega) h3 hle2
  · rw[if_neg hk0]
    have:k=0:=by omega
    subst this
    exact loD_ok hH hC hP hk hi hj hw h hle2
theorem mLo_ok {Q:Array Keyed→SortSt→Prop} (hH:LoH D L p q) (hC:Cmp D L) (hP:PureC M A E s D L kd) (hk:kindOf st=kd) (hp:0 < p.size) (hq:0 < q.size)
    (h0:∀ u∈q.toList.take 1,∀ v∈p.toList,Le L u v) (hQ:∀ z g,Fin1 L (p.toList++q.toList) z→Q z (setGal st g)):wpS M A E s (mLo p q) Q st:=by
  rw[mLo_eq];unfold mLoB
  obtain ⟨e,he,hm⟩:=at? (p:=q) (i:=0) hq
  have hd:q.toList=e :: q.toList.drop 1:=by simpa using dropC he
  have h1:MS D L (p.toList++q.toList) (#[e]:Array Keyed).toList (p.toList.drop 0) (q.toList.drop 1):=by
    have:MS D L (p.toList++q.toList) [] p.toList ([e]++q.toList.drop 1):=⟨by rw[hd];simp,List.Pairwise.nil,by simp,by simp,hH.sp,by have:=hH.sq;rw[hd] at this;exact this⟩
    refine this.movY fun u hu v hv=>h0 u ?_ v hv
    rw[hd];simpa using hu
  refine wpS_bind (wpS_lift (wpAny_rule ⟨rfl,?_⟩))
  refine wpS_bind (wpS_el he ?_)
  by_cases c1:1=q.size
  · rw[if_pos (by simpa using c1)]
    exact wpS_pure (hQ _ _ (fin_dn h1 c1))
  rw[if_neg (by simpa using c1)]
  by_cases c2:0 + 1=p.size
  · rw[if_pos (by simpa using c2)]
    exact wpS_pure (hQ _ _ (hH.fin_lp hC h1 c2))
  rw[if_neg (by simpa using c2)]
  refine wpS_bind (wpS_get ?_)
  have hI:LoI D L p q (p.toList++q.toList) #[e] 0 1:=⟨h1,by omega,by omega⟩
  generalize p.toList++q.toList=T at hI hQ
  refine wpS_bind (wpS_mono (wpS_forRange (I:=fun x c st'=>∃ g,st'=setGal st g∧∃ o i j mg,c=(none,o,i,j,mg)∧LoI D L p q T o i j∧x≤i + j)
    (Q:=fun c st'=>∃ g,st'=setGal st g∧∃ z o i j mg,c=(some z,o,i,j,mg)∧Fin1 L T z) ?step ?fin ⟨gallopOf st,rfl,_,_,_,_,rfl,hI,by omega⟩) ?post)
  case post=>
    rintro c st' ⟨g,rfl,z,o,i,j,mg,rfl,hz⟩
    exact wpS_pure (hQ z g hz)
  case fin=>
    rintro c st' ⟨g,rfl,o,i,j,mg,rfl,hI,hx⟩
    have:=hI.li;have:=hI.lj
    omega
  case step=>
    rintro x c st' _ hx ⟨g,rfl,o,i,j,mg,rfl,hI,hxi⟩
    dsimp only
    refine wpS_bind (wpS_mono (wpS_forRange (I:=fun y c st'=>st'=setGal st g∧∃ o i j ca cb,c=(none,o,i,j,ca,cb)∧LoI D L p q T o i j∧y + x≤i + j)
      (Q:=fun c st'=>st'=setGal st g∧∃ r o i j ca cb,c=(r,o,i,j,ca,cb)∧((∃ z,r=some z∧Fin1 L T z)∨(r=none∧LoI D L p q T o i j∧x + 1≤i + j))) ?s1 ?f1 ⟨rfl,_,_,_,_,_,rfl,hI,by omega⟩) ?p1)
    case f1=>
      rintro c st' ⟨rfl,o,i,j,ca,cb,rfl,hI,hx⟩
      have:=hI.li;have:=hI.lj
      omega
    case s1=>
      rintro y c st' _ hy ⟨rfl,o,i,j,ca,cb,rfl,hI,hxi⟩
      obtain ⟨h,hi,hj⟩:=hI
      obtain ⟨u,hu,hum⟩:=at? (p:=q) (i:=j) hj
      obtain ⟨v,hv,hvm⟩:=at? (p:=p) (i:=i) (by omega)
      have hDu:=hH.dq u hum
      have hDv:=hH.dp v hvm
      have hqd:=dropC hu
      have hpd:=dropC hv
      have hsx:=h.sx
      have hsy:=h.sy
      rw[hpd,List.pairwise_cons] at hsx
      rw[hqd,List.pairwise_cons] at hsy
      dsimp only
      refine wpS_bind (wpS_el hu (wpS_bind (wpS_el hv (wpS_bind (hP _ _ _ _ hk hDu hDv ?_)))))
      dsimp only
      cases hL:L u v with
      | true=>
        rw[if_pos rfl]
        refine wpS_bind (wpS_el hu ?_)
        have h2:MS D L T (o.push u).toList (p.toList.drop i) (q.toList.drop (j + 1)):=by
          rw[Array.toList_push]
          rw[hqd] at h
          refine MS.movY (p:=[u]) h fun a ha b hb=>?_
          have ha:a=u:=by simpa using ha
          subst ha
          have hav:Le L a v:=hC.asym _ _ hDu hDv hL
          rw[hpd] at hb
          rcases List.mem_cons.mp hb with rfl | hb
          · exact hav
          · exact hC.tr a v b hDu hDv (hH.dp b (List.mem_of_mem_drop hb)) hav (hsx.1 b hb)
        by_cases c3:j + 1=q.size
        · rw[if_pos (by simpa using c3)]
          exact wpS_pure ⟨rfl,_,_,_,_,_,_,rfl,.inl ⟨_,rfl,fin_dn h2 c3⟩⟩
        · rw[if_neg (by simpa using c3)]
          have hI:LoI D L p q T (o.push u) i (j + 1):=⟨h2,hi,by omega⟩
          split
          · exact wpS_pure ⟨rfl,_,_,_,_,_,_,rfl,.inr ⟨rfl,hI,by omega⟩⟩
          · exact wpS_pure ⟨rfl,_,_,_,_,_,rfl,hI,by omega⟩
      | false=>
        rw[if_neg Bool.false_ne_true]
        refine wpS_bind (wpS_el hv ?_)
        have h2:MS D L T (o.push v).toList (p.toList.drop (i + 1)) (q.toList.drop j):=by
          rw[Array.toList_push]
          rw[hpd] at h
          refine MS.movX (p:=[v]) h fun a ha b hb=>?_
          have ha:a=v:=by simpa using ha
          subst ha
          rw[hqd] at hb
          rcases List.mem_cons.mp hb with rfl | hb
          · exact hL
          · exact hC.tr a u b hDv hDu (hH.dq b (List.mem_of_mem_drop hb)) hL (hsy.1 b hb)
        by_cases c3:i + 1 + 1=p.size
        · rw[if_pos (by simpa using c3)]
          exact wpS_pure ⟨rfl,_,_,_,_,_,_,rfl,.inl ⟨_,rfl,hH.fin_lp hC h2 c3⟩⟩
        · rw[if_neg (by simpa using c3)]
          have hI:LoI D L p q T (o.push v) (i + 1) j:=⟨h2,by omega,hj⟩
          split
          · exact wpS_pure ⟨rfl,_,_,_,_,_,_,rfl,.inr ⟨rfl,hI,by omega⟩⟩
          · exact wpS_pure ⟨rfl,_,_,_,_,_,rfl,hI,by omega⟩
    case p1=>
      rintro c st' ⟨rfl,r,o,i,j,ca,cb,rfl,⟨z,rfl,hz⟩ | ⟨rfl,hI,hw⟩⟩
      · exact wpS_pure ⟨g,rfl,z,o,i,j,mg,rfl,hz⟩
      · dsimp only
        refine wpS_bind (wpS_lift (wpAny_rule ⟨rfl,?_⟩))
        refine wpS_bind (wpS_mono (wpS_forRange (I:=fun y c st'=>(∃ g,st'=setGal st g)∧LoY D L p q T (y + (x + 1)) c)
          (Q:=fun c st'=>(∃ g,st'=setGal st g)∧LoQ D L p q T (x + 1) c) ?s2 ?f2 ⟨⟨g,rfl⟩,_,_,_,_,_,_,rfl,hI,by omega⟩) ?p2)
        case f2=>
          rintro c st' ⟨_,o,i,j,mg,ca,cb,rfl,hI,hx⟩
          have:=hI.li;have:=hI.lj
          omega
        case p2=>
          rintro c st' ⟨⟨g,rfl⟩,r,o,i,j,mg,ca,cb,rfl,⟨z,rfl,hz⟩ | ⟨rfl,hI,hw⟩⟩
          · exact wpS_pure ⟨g,rfl,z,o,i,j,mg,rfl,hz⟩
          · exact wpS_bind (wpS_modify (wpS_pure ⟨_,rfl,_,_,_,_,rfl,hI,hw⟩))
        case s2=>
          rintro y c st' _ hy ⟨⟨g,rfl⟩,o,i,j,mg,ca,cb,rfl,hI,hw⟩
          have key:∀ mg,wpS M A E s (loF p q o i j mg ca cb) (fun r st'=>match r with | .done c'=>(∃ g,st'=setGal st g)∧LoQ D L p q T (x + 1) c' | .yield c'=>(∃ g,st'=setGal st g)∧LoY D L p q T (y + 1 + (x + 1)) c') (setGal st g):=by
            intro mg
            refine wpS_mono (loF_ok (w:=y + 1 + (x + 1)) hH hC hP hk (by omega) hI) ?_
            rintro r st' ⟨hg,hr⟩
            cases r with
            | done c=>
              obtain ⟨r,o,i,j,mg,ca,cb,rfl,h | ⟨rfl,hI,hw⟩⟩:=hr
              · exact ⟨hg,r,o,i,j,mg,ca,cb,rfl,.inl h⟩
              · exact ⟨hg,none,o,i,j,mg,ca,cb,rfl,.inr ⟨rfl,hI,by omega⟩⟩
            | yield c=>exact ⟨hg,hr⟩
          have key2:wpS M A E s (if mg > 1 then loF p q o i j (mg - 1) ca cb else loF p q o i j mg ca cb) (fun r st'=>match r with | .done c'=>(∃ g,st'=setGal st g)∧LoQ D L p q T (x + 1) c' | .yield c'=>(∃ g,st'=setGal st g)∧LoY D L p q T (y + 1 + (x + 1)) c') (setGal st g):=by
            split
            · exact key _
            · exact key _
          refine wpS_mono (Q:=fun r st'=>match r with | .done c'=>(∃ g,st'=setGal st g)∧LoQ D L p q T (x + 1) c' | .yield c'=>(∃ g,st'=setGal st g)∧LoY D L p q T (y + 1 + (x + 1)) c') ?_ (fun r st' hr=>by cases r <;> exact hr)
          by_cases hmg:mg > 1
          · rw[if_pos (show (none,o,i,j,mg,ca,cb).snd.snd.snd.snd.fst > 1 from hmg)]
            refine Eq.mp ?_ (key (mg - 1))
            refine congrArg (fun m=>wpS M A E s m _ _) ?_
            unfold loF loD loE lpf dnf
            dsimp only
          · rw[if_neg (show ¬ (none,o,i,j,mg,ca,cb).snd.snd.snd.snd.fst > 1 from hmg)]
            exact key mg
end
end L2
set_option Elab.async false
set_option linter.all false
set_option maxRecDepth 100000
namespace L2
open PySem PySem.Spec PyProof.Rows
def mHi:Array Keyed→Array Keyed→StateT SortSt Sem (Array Keyed):=sortPriv% PySem.Builtin.mergeHi
def mHiB (p q:Array Keyed):StateT SortSt Sem (Array Keyed):=do
  rule "list.sort.merge-hi"
  let tt:=p.size + q.size
  let dn (o:Array Keyed) (i j:Nat):=p.extract 0 i++q.extract 0 j++o.reverse
  let fb (o:Array Keyed) (i j:Nat):=q.extract 0 j++p.extract 0 i++o.reverse
  let mut i:=p.size - 1
  let mut j:=q.size
  let mut o:Array Keyed:=#[←elem' p i]
  if i == 0 then return dn o i j
  if j == 1 then return fb o i j
  let mut mg:=gallopOf (←get)
  for _ in [0:tt] do
    let mut ca:=0
    let mut cb:=0
    for _ in [0:tt] do
      let some wn ←lt' (←elem' q (j - 1)) (←elem' p (i - 1)) | return dn o i j
      if wn then
        i:=i - 1;o:=o.push (←elem' p i);ca:=ca + 1;cb:=0
        if i == 0 then return dn o i j
        if ca≥mg then break
      else
        j:=j - 1;o:=o.push (←elem' q j);cb:=cb + 1;ca:=0
        if j == 1 then return fb o i j
        if cb≥mg then break
    rule "list.sort.gallop"
    mg:=mg + 1
    for _ in [0:tt] do
      if mg > 1 then mg:=mg - 1
      setG mg
      let some a ←gal false (←elem' q (j - 1)) p 0 i (i - 1) | return dn o i j
      let k:=i - a
      ca:=k
      if k > 0 then
        o:=o++(p.extract a i).reverse;i:=a
        if i == 0 then return dn o i j
      j:=j - 1;o:=o.push (←elem' q j)
      if j == 1 then return fb o i j
      let some a ←gal true (←elem' p (i - 1)) q 0 j (j - 1) | return dn o i j
      let k:=j - a
      cb:=k
      if k > 0 then
        o:=o++(q.extract a j).reverse;j:=a
        if j == 1 then return fb o i j
        if j == 0 then return dn o i j
      i:=i - 1;o:=o.push (←elem' p i)
      if i == 0 then return dn o i j
      if ca < 7&&cb < 7 then break
    mg:=mg + 1
    setG mg
  unsupported "internal:list.sort.merge-bound"
theorem mHi_eq (p q:Array Keyed):mHi p q=mHiB p q:=rfl
abbrev HiC:=Option (Array Keyed)×Nat×Nat×Array Keyed×Nat×Nat×Nat
def dnh (p q o:Array Keyed) (i j:Nat):Array Keyed:=p.extract 0 i++q.extract 0 j++o.reverse
def fbh (p q o:Array Keyed) (i j:Nat):Array Keyed:=q.extract 0 j++p.extract 0 i++o.reverse
def hiE (p q o:Array Keyed) (i j mg ca cb:Nat):StateT SortSt Sem (ForInStep HiC):=do
  let e ←elem' p (i - 1)
  if (i - 1 == 0)=true then pure (ForInStep.done (some (dnh p q (o.push e) (i - 1) j),i - 1,j,o.push e,mg,ca,cb))
  else if (decide (ca < 7)&&decide (cb < 7))=true then pure (ForInStep.done (none,i - 1,j,o.push e,mg,ca,cb))
  else pure (ForInStep.yield (none,i - 1,j,o.push e,mg,ca,cb))
def hiD (p q o:Array Keyed) (i j mg ca cb:Nat):StateT SortSt Sem (ForInStep HiC):=do
  let e ←elem' q (j - 1)
  if (j - 1 == 1)=true then pure (ForInStep.done (some (fbh p q (o.push e) i (j - 1)),i,j - 1,o.push e,mg,ca,cb))
  else do
    let some a ←gal true (←elem' p (i - 1)) q 0 (j - 1) (j - 1 - 1) | pure (ForInStep.done (some (dnh p q (o.push e) i (j - 1)),i,j - 1,o.push e,mg,ca,cb))
    if j - 1 - a > 0 then
      if (a == 1)=true then pure (ForInStep.done (some (fbh p q (o.push e++(q.extract a (j - 1)).reverse) i a),i,a,o.push e++(q.extract a (j - 1)).reverse,mg,ca,j - 1 - a))
      else if (a == 0)=true then pure (ForInStep.done (some (dnh p q (o.push e++(q.extract a (j - 1)).reverse) i a),i,a,o.push e++(q.extract a (j - 1)).reverse,mg,ca,j - 1 - a))
      else hiE p q (o.push e++(q.extract a (j - 1)).reverse) i a mg ca (j - 1 - a)
    else hiE p q (o.push e) i (j - 1) mg ca (j - 1 - a)
def hiF (p q o:Array Keyed) (i j mg ca cb:Nat):StateT SortSt Sem (ForInStep HiC):=do
  setG mg
  let some a ←gal false (←elem' q (j - 1)) p 0 i (i - 1) | pure (ForInStep.done (some (dnh p q o i j),i,j,o,mg,ca,cb))
  if i - a > 0 then
    if (a == 0)=true then pure (ForInStep.done (some (dnh p q (o++(p.extract a i).reverse) a j),a,j,o++(p.extract a i).reverse,mg,i - a,cb))
    else hiD p q (o++(p.extract a i).reverse) a j mg (i - a) cb
  else hiD p q o i j mg (i - a) cb
section
variable {M:Model} {A:Around} {E:Value→Shared→Prop} {s:Shared} {D:Keyed→Prop} {L:Keyed→Keyed→Bool} {kd:SortKind} {p q:Array Keyed} {T:List Keyed} {st:SortSt}
abbrev Fl (L:Keyed→Keyed→Bool):Keyed→Keyed→Bool:=fun x y=>L y x
theorem pw_rev {l:List Keyed}:l.reverse.Pairwise (Le (Fl L))↔l.Pairwise (Le L):=by rw[List.pairwise_reverse]
abbrev MR (D:Keyed→Prop) (L:Keyed→Keyed→Bool) (T:List Keyed) (p q o:Array Keyed) (i j:Nat):Prop:=MS D (Fl L) T o.toList (p.toList.take i).reverse (q.toList.take j).reverse
structure HiI (D:Keyed→Prop) (L:Keyed→Keyed→Bool) (p q:Array Keyed) (T:List Keyed) (o:Array Keyed) (i j:Nat):Prop where
  ms:MR D L T p q o i j
  li:0 < i
  lj:1 < j
  hi:i≤p.size
  hj:j≤q.size
structure HiH (D:Keyed→Prop) (L:Keyed→Keyed→Bool) (p q:Array Keyed):Prop where
  dp:∀ u∈p.toList,D u
  dq:∀ u∈q.toList,D u
  sp:p.toList.Pairwise (Le L)
  sq:q.toList.Pairwise (Le L)
  first:∀ u∈q.toList.take 1,∀ v∈p.toList,L u v=true
theorem takeC {p:Array Keyed} {i:Nat} {e:Keyed} (hi:0 < i) (h:p[i - 1]?=some e):p.toList.take i=p.toList.take (i - 1)++[e]:=by
  obtain ⟨i,rfl⟩:∃ k,i=k + 1:=⟨i - 1,by omega⟩
  rw[Nat.add_sub_cancel] at h ⊢
  rw[List.take_succ,Array.getElem?_toList,h];rfl
theorem takeR {p:Array Keyed} {i:Nat} {e:Keyed} (hi:0 < i) (h:p[i - 1]?=some e):(p.toList.take i).reverse=[e]++(p.toList.take (i - 1)).reverse:=by
  rw[takeC hi h,List.reverse_append];rfl
theorem take_split (l:List Keyed) {a i:Nat} (h:a≤i):(l.take i).reverse=((l.take i).drop a).reverse++(l.take a).reverse:=by
  rw[←List.reverse_append]
  congr 1
  have:l.take a=(l.take i).take a:=by rw[List.take_take,Nat.min_eq_left h]
  rw[this,List.take_append_drop]
theorem extrR (p:Array Keyed) (a i:Nat):(p.extract a i).reverse.toList=((p.toList.take i).drop a).reverse:=by
  rw[Array.toList_reverse,Array.toList_extract,List.extract,List.drop_take]
theorem dnh_list (p q o:Array Keyed) (i j:Nat):(dnh p q o i j).toList=p.toList.take i++q.toList.take j++o.toList.reverse:=by
  unfold dnh;rw[Array.toList_append,Array.toList_append,Array.toList_extract,Array.toList_extract,Array.toList_reverse,List.extract,List.extract];simp
theorem fbh_list (p q o:Array Keyed) (i j:Nat):(fbh p q o i j).toList=q.toList.take j++p.toList.take i++o.toList.reverse:=by
  unfold fbh;rw[Array.toList_append,Array.toList_append,Array.toList_extract,Array.toList_extract,Array.toList_reverse,List.extract,List.extract];simp
theorem fin_rev {l m:List Keyed} (h:l.Perm T∧l.Pairwise (Le (Fl L))) (e:m=l.reverse):m.Perm T∧m.Pairwise (Le L):=by
  subst e
  refine ⟨(List.reverse_perm l).trans h.1,?_⟩
  rw[List.pairwise_reverse];exact h.2
theorem fin_dh {o:Array Keyed} {i j:Nat} (h:MR D L T p q o i j) (e:i=0):Fin1 L T (dnh p q o i j):=by
  unfold Fin1;rw[dnh_list]
  subst e
  have h':=h.swap
  exact fin_rev (l:=o.toList++(q.toList.take j).reverse) (MS.fin (D:=D) (by simpa using h')) (by simp)
theorem HiH.fin_fb {o:Array Keyed} {i j:Nat} (hH:HiH D L p q) (hC:Cmp D L) (h:MR D L T p q o i j) (e:j=1):Fin1 L T (fbh p q o i j):=by
  unfold Fin1;rw[fbh_list]
  subst e
  refine fin_rev (h.all fun u hu v hv=>?_) (by simp)
  have hu:u∈p.toList:=List.mem_of_mem_take (List.mem_reverse.mp hu)
  have hv:=List.mem_reverse.mp hv
  exact hC.asym v u (hH.dq v (List.mem_of_mem_take hv)) (hH.dp u hu) (hH.first v hv u hu)
def HiQ (D:Keyed→Prop) (L:Keyed→Keyed→Bool) (p q:Array Keyed) (T:List Keyed) (w:Nat) (c:HiC):Prop:=
  ∃ r o i j mg ca cb,c=(r,i,j,o,mg,ca,cb)∧((∃ z,r=some z∧Fin1 L T z)∨(r=none∧HiI D L p q T o i j∧i + j≤w))
def HiY (D:Keyed→Prop) (L:Keyed→Keyed→Bool) (p q:Array Keyed) (T:List Keyed) (w:Nat) (c:HiC):Prop:=
  ∃ o i j mg ca cb,c=(none,i,j,o,mg,ca,cb)∧HiI D L p q T o i j∧i + j≤w
def HiP (D:Keyed→Prop) (L:Keyed→Keyed→Bool) (p q:Array Keyed) (T:List Keyed) (w:Nat) (st:SortSt) (r:ForInStep HiC) (st':SortSt):Prop:=
  (∃ g,st'=setGal st g)∧match r with | .done c=>HiQ D L p q T w c | .yield c=>HiY D L p q T w c
theorem hiE_ok {o:Array Keyed} {i j mg ca cb w g:Nat} (hH:HiH D L p q) (hi:0 < i) (hip:i≤p.size) (hj:1 < j) (hjq:j≤q.size) (hw:i - 1 + j≤w) (h:MR D L T p q o i j)
    (hle:∀ u∈(p.toList.take i).drop (i - 1),∀ v∈q.toList.take j,Le L v u):wpS M A E s (hiE p q o i j mg ca cb) (HiP D L p q T w st) (setGal st g):=by
  obtain ⟨e,he,hm⟩:=at? (p:=p) (i:=i - 1) (by omega)
  have hd:=takeR hi he
  have h2:MR D L T p q (o.push e) (i - 1) j:=by
    unfold MR at h ⊢
    rw[Array.toList_push]
    rw[hd] at h
    refine MS.movX h fun u hu v hv=>?_
    have hu:u=e:=by simpa using hu
    subst hu
    refine hle u ?_ v (List.mem_reverse.mp hv)
    rw[takeC hi he,List.drop_append_of_le_length (by simp;omega)]
    simp
  unfold hiE
  refine wpS_bind (wpS_el he ?_)
  by_cases c1:i - 1=0
  · rw[if_pos (by simpa using c1)]
    exact wpS_pure ⟨⟨g,rfl⟩,_,_,_,_,_,_,_,rfl,.inl ⟨_,rfl,fin_dh h2 c1⟩⟩
  · rw[if_neg (by simpa using c1)]
    have hI:HiI D L p q T (o.push e) (i - 1) j:=⟨h2,by omega,hj,by omega,hjq⟩
    split
    · exact wpS_pure ⟨⟨g,rfl⟩,_,_,_,_,_,_,_,rfl,.inr ⟨rfl,hI,hw⟩⟩
    · exact wpS_pure ⟨⟨g,rfl⟩,_,_,_,_,_,_,rfl,hI,hw⟩
theorem le_refl' (hC:Cmp D L) {v:Keyed} (h:D v):Le L v v:=by
  cases hx:L v v with
  | false=>exact hx
  | true=>exact hC.asym v v h h hx
theorem last_ge (hC:Cmp D L) (hd:∀ u∈p.toList,D u) (hs:p.toList.Pairwise (Le L)) {i:Nat} {x:Keyed} (hi:0 < i) (hx:p[i - 1]?=some x) (hm:x∈p.toList):∀ v∈p.toList.take i,Le L v x:=by
  intro v hv
  have h2:=hs.sublist (List.take_sublist i p.toList)
  rw[takeC hi hx] at h2 hv
  rcases List.mem_append.mp hv with hv | hv
  · exact (List.pairwise_append.mp h2).2.2 v hv x (by simp)
  · have:v=x:=by simpa using hv
    subst this;exact le_refl' hC (hd v hm)
theorem drop_last {i:Nat} {x u:Keyed} (hi:0 < i) (hip:i≤p.size) (hx:p[i - 1]?=some x):u∈(p.toList.take i).drop (i - 1)↔u=x:=by
  rw[takeC hi hx,List.drop_append_of_le_length (by simp;omega),List.drop_eq_nil_of_le (by simp;omega)]
  simp
theorem hiD_ok {o:Array Keyed} {i j mg ca cb w g:Nat} (hH:HiH D L p q) (hC:Cmp D L) (hP:PureC M A E s D L kd) (hk:kindOf st=kd) (hi:0 < i) (hip:i≤p.size) (hj:1 < j) (hjq:j≤q.size) (hw:i - 1 + j≤w)
    (h:MR D L T p q o i j) (hle:∀ v∈(q.toList.take j).drop (j - 1),∀ u∈p.toList.take i,Le L u v):wpS M A E s (hiD p q o i j mg ca cb) (HiP D L p q T w st) (setGal st g):=by
  obtain ⟨e,he,hm⟩:=at? (p:=q) (i:=j - 1) (by omega)
  obtain ⟨x,hx,hxm⟩:=at? (p:=p) (i:=i - 1) (by omega)
  have h2:MR D L T p q (o.push e) i (j - 1):=by
    unfold MR at h ⊢
    rw[Array.toList_push]
    rw[takeR (by omega) he] at h
    refine MS.movY h fun u hu v hv=>?_
    have hu:u=e:=by simpa using hu
    exact hle u ((drop_last (by omega) hjq he).mpr hu) v (List.mem_reverse.mp hv)
  unfold hiD
  refine wpS_bind (wpS_el he ?_)
  by_cases c1:j - 1=1
  · rw[if_pos (by simpa using c1)]
    exact wpS_pure ⟨⟨g,rfl⟩,_,_,_,_,_,_,_,rfl,.inl ⟨_,rfl,hH.fin_fb hC h2 c1⟩⟩
  · rw[if_neg (by simpa using c1)]
    refine wpS_bind (wpS_el hx ?_)
    refine wpS_bind (gal_ok hC hP (by exact hk) (by omega) (by omega) (hH.dp x hxm) hH.dq (by rw[List.drop_zero];exact hH.sq.sublist (List.take_sublist _ _)) ?_)
    rw[List.drop_zero]
    intro a hkn ha hb
    replace ha:∀ u∈(q.toList.take (j - 1)).take a,L u x=true:=ha
    replace hb:∀ u∈(q.toList.take (j - 1)).drop a,Le L x u:=hb
    rw[List.take_take,Nat.min_eq_left hkn] at ha
    dsimp only
    have xge:=last_ge hC hH.dp hH.sp hi hx hxm
    have h3:MR D L T p q (o.push e++(q.extract a (j - 1)).reverse) i a:=by
      unfold MR at h2 ⊢
      rw[Array.toList_append,extrR]
      rw[take_split q.toList hkn] at h2
      refine h2.movY fun u hu v hv=>?_
      have hu:=List.mem_reverse.mp hu
      have hv:=List.mem_reverse.mp hv
      exact hC.tr v x u (hH.dp v (List.mem_of_mem_take hv)) (hH.dp x hxm) (hH.dq u (List.mem_of_mem_take (List.mem_of_mem_drop hu))) (xge v hv) (hb u hu)
    have hle2:∀ u∈(p.toList.take i).drop (i - 1),∀ v∈q.toList.take a,Le L v u:=by
      intro u hu v hv
      have:=(drop_last hi hip hx).mp hu
      subst this
      exact hC.asym v u (hH.dq v (List.mem_of_mem_take hv)) (hH.dp u hxm) (ha v hv)
    have ha0:a≠0:=by
      rintro rfl
      obtain ⟨y,hy,hym⟩:=at? (p:=q) (i:=0) (by omega)
      have hyq:q.toList.take 1=[y]:=by have:=takeC (p:=q) (i:=1) (by omega) hy;simpa using this
      have h5:=hH.first y (by rw[hyq];simp) x hxm
      have h6:y∈q.toList.take (j - 1):=by
        have:q.toList.take 1=(q.toList.take (j - 1)).take 1:=by rw[List.take_take,Nat.min_eq_left (by omega)]
        rw[this] at hyq
        exact List.mem_of_mem_take (i:=1) (by rw[hyq];simp)
      rw[show L y x=false from hb y h6] at h5
      cases h5
    by_cases hk0:j - 1 - a > 0
    · rw[if_pos hk0]
      by_cases c2:a=1
      · rw[if_pos (by simpa using c2)]
        exact wpS_pure ⟨⟨g,rfl⟩,_,_,_,_,_,_,_,rfl,.inl ⟨_,rfl,hH.fin_fb hC h3 c2⟩⟩
      · rw[if_neg (by simpa using c2),if_neg (by simpa using ha0)]
        exact hiE_ok hH hi hip (by omega) (by omega) (by omega) h3 hle2
    · rw[if_neg hk0]
      have:a=j - 1:=by omega
      subst this
      exact hiE_ok hH hi hip (by omega) (by omega) (by omega) h2 hle2
theorem hiF_ok {o:Array Keyed} {i j mg ca cb w g:Nat} (hH:HiH D L p q) (hC:Cmp D L) (hP:PureC M A E s D L kd) (hk:kindOf st=kd) (hw:i - 1 + j≤w) (hI:HiI D L p q T o i j):
    wpS M A E s (hiF p q o i j mg ca cb) (HiP D L p q T w st) (setGal st g):=by
  obtain ⟨h,hi,hj,hip,hjq⟩:=hI
  obtain ⟨x,hx,hxm⟩:=at? (p:=q) (i:=j - 1) (by omega)
  unfold hiF
  refine wpS_bind (wpS_modify ?_)
  refine wpS_bind (wpS_el hx ?_)
  refine wpS_bind (gal_ok hC hP (by exact hk) (by omega) (by omega) (hH.dq x hxm) hH.dp (by rw[List.drop_zero];exact hH.sp.sublist (List.take_sublist _ _)) ?_)
  rw[List.drop_zero]
  intro a hkn ha hb
  replace ha:∀ u∈(p.toList.take i).take a,Le L u x:=ha
  replace hb:∀ u∈(p.toList.take i).drop a,L x u=true:=hb
  rw[List.take_take,Nat.min_eq_left hkn] at ha
  dsimp only
  have xge:=last_ge hC hH.dq hH.sq (by omega) hx hxm
  have h3:MR D L T p q (o++(p.extract a i).reverse) a j:=by
    unfold MR at h ⊢
    rw[Array.toList_append,extrR]
    rw[take_split p.toList hkn] at h
    refine h.movX fun u hu v hv=>?_
    have hu:=List.mem_reverse.mp hu
    have hv:=List.mem_reverse.mp hv
    have hDu:=hH.dp u (List.mem_of_mem_take (List.mem_of_mem_drop hu))
    exact hC.tr v x u (hH.dq v (List.mem_of_mem_take hv)) (hH.dq x hxm) hDu (xge v hv) (hC.asym x u (hH.dq x hxm) hDu (hb u hu))
  have hle2:∀ v∈(q.toList.take j).drop (j - 1),∀ u∈p.toList.take a,Le L u v:=by
    intro v hv u hu
    have:=(drop_last (by omega) hjq hx).mp hv
    subst this
    exact ha u hu
  by_cases hk0:i - a > 0
  · rw[if_pos hk0]
    by_cases c2:a=0
    · rw[if_pos (by simpa using c2)]
      exact wpS_pure ⟨⟨_,rfl⟩,_,_,_,_,_,_,_,rfl,.inl ⟨_,rfl,fin_dh h3 c2⟩⟩
    · rw[if_neg (by simpa using c2)]
      exact hiD_ok hH hC hP hk (by omega) (by omega) hj hjq (by omega) h3 hle2
  · rw[if_neg hk0]
    have:a=i:=by omega
    subst this
    exact hiD_ok hH hC hP hk hi hip hj hjq hw h hle2
theorem mHi_ok {Q:Array Keyed→SortSt→Prop} (hH:HiH D L p q) (hC:Cmp D L) (hP:PureC M A E s D L kd) (hk:kindOf st=kd) (hp:0 < p.size) (hq:0 < q.size)
    (h0:∀ u∈p.toList.drop (p.size - 1),∀ v∈q.toList,Le L v u) (hQ:∀ z g,Fin1 L (p.toList++q.toList) z→Q z (setGal st g)):wpS M A E s (mHi p q) Q st:=by
  rw[mHi_eq];unfold mHiB
  obtain ⟨e,he,hm⟩:=at? (p:=p) (i:=p.size - 1) (by omega)
  have hd:p.toList=p.toList.take (p.size - 1)++[e]:=by
    have:=takeC hp he
    rwa [List.take_of_length_le (by simp)] at this
  have h1:MR D L (p.toList++q.toList) p q #[e] (p.size - 1) q.size:=by
    unfold MR
    have e2:(q.toList.take q.size)=q.toList:=List.take_of_length_le (by simp)
    rw[e2]
    have:MS D (Fl L) (p.toList++q.toList) [] ([e]++(p.toList.take (p.size - 1)).reverse) q.toList.reverse:=by
      have e3 : [e] ++ (p.toList.take (p.size - 1)).reverse = p.toList.reverse := by conv => rhs; rw [hd]
                                                                                     simp
      rw[e3]
      exact ⟨by simpa using (List.reverse_perm _).append (List.reverse_perm _),List.Pairwise.nil,by simp,by simp,pw_rev.mpr hH.sp,pw_rev.mpr hH.sq⟩
    refine this.movX fun u hu v hv=>h0 u ?_ v (List.mem_reverse.mp hv)
    have hu:u=e:=by simpa using hu
    subst hu
    rw[hd,List.drop_append_of_le_length (by simp)]
    simp
  refine wpS_bind (wpS_lift (wpAny_rule ⟨rfl,?_⟩))
  refine wpS_bind (wpS_el he ?_)
  by_cases c1:p.size - 1=0
  · rw[if_pos (by simpa using c1)]
    exact wpS_pure (hQ _ _ (fin_dh h1 c1))
  rw[if_neg (by simpa using c1)]
  by_cases c2:q.size=1
  · rw[if_pos (by simpa using c2)]
    exact wpS_pure (hQ _ _ (hH.fin_fb hC h1 c2))
  rw[if_neg (by simpa using c2)]
  refine wpS_bind (wpS_get ?_)
  have hI:HiI D L p q (p.toList++q.toList) #[e] (p.size - 1) q.size:=⟨h1,by omega,by omega,by omega,by omega⟩
  generalize p.toList++q.toList=T at hI hQ
  refine wpS_bind (wpS_mono (wpS_forRange (a:=0) (b:=p.size + q.size) (I:=fun x c st'=>∃ g,st'=setGal st g∧∃ o i j mg,c=(none,i,j,o,mg)∧HiI D L p q T o i j∧x + (i + j)≤p.size + q.size)
    (Q:=fun c st'=>∃ g,st'=setGal st g∧∃ z o i j mg,c=(some z,i,j,o,mg)∧Fin1 L T z) ?step ?fin ⟨gallopOf st,rfl,#[e],p.size - 1,q.size,gallopOf st,rfl,hI,by omega⟩) ?post)
  case post=>
    rintro c st' ⟨g,rfl,z,o,i,j,mg,rfl,hz⟩
    exact wpS_pure (hQ z g hz)
  case fin=>
    rintro c st' ⟨g,rfl,o,i,j,mg,rfl,hI,hx⟩
    have:=hI.li;have:=hI.lj
    omega
  case step=>
    rintro x c st' _ hx ⟨g,rfl,o,i,j,mg,rfl,hI,hxi⟩
    dsimp only
    refine wpS_bind (wpS_mono (wpS_forRange (I:=fun y c st'=>st'=setGal st g∧∃ o i j ca cb,c=(none,i,j,o,ca,cb)∧HiI D L p q T o i j∧y + x + (i + j)≤p.size + q.size)
      (Q:=fun c st'=>st'=setGal st g∧∃ r o i j ca cb,c=(r,i,j,o,ca,cb)∧((∃ z,r=some z∧Fin1 L T z)∨(r=none∧HiI D L p q T o i j∧x + 1 + (i + j)≤p.size + q.size))) ?s1 ?f1 ⟨rfl,_,_,_,_,_,rfl,hI,by omega⟩) ?p1)
    case f1=>
      rintro c st' ⟨rfl,o,i,j,ca,cb,rfl,hI,hx⟩
      have:=hI.li;have:=hI.lj
      omega
    case s1=>
      rintro y c st' _ hy ⟨rfl,o,i,j,ca,cb,rfl,hI,hxi⟩
      obtain ⟨h,hi,hj,hip,hjq⟩:=hI
      obtain ⟨u,hu,hum⟩:=at? (p:=q) (i:=j - 1) (by omega)
      obtain ⟨v,hv,hvm⟩:=at? (p:=p) (i:=i - 1) (by omega)
      have hDu:=hH.dq u hum
      have hDv:=hH.dp v hvm
      have uge:=last_ge hC hH.dq hH.sq (by omega) hu hum
      have vge:=last_ge hC hH.dp hH.sp hi hv hvm
      dsimp only
      refine wpS_bind (wpS_el hu (wpS_bind (wpS_el hv (wpS_bind (hP _ _ _ _ hk hDu hDv ?_)))))
      dsimp only
      cases hL:L u v with
      | true=>
        rw[if_pos rfl]
        refine wpS_bind (wpS_el hv ?_)
        have h2:MR D L T p q (o.push v) (i - 1) j:=by
          unfold MR at h ⊢
          rw[Array.toList_push]
          rw[takeR hi hv] at h
          refine MS.movX h fun a ha b hb=>?_
          have ha:a=v:=by simpa using ha
          subst ha
          have hb:=List.mem_reverse.mp hb
          exact hC.tr b u a (hH.dq b (List.mem_of_mem_take hb)) hDu hDv (uge b hb) (hC.asym _ _ hDu hDv hL)
        by_cases c3:i - 1=0
        · rw[if_pos (by simpa using c3)]
          exact wpS_pure ⟨rfl,_,_,_,_,_,_,rfl,.inl ⟨_,rfl,fin_dh h2 c3⟩⟩
        · rw[if_neg (by simpa using c3)]
          have hI:HiI D L p q T (o.push v) (i - 1) j:=⟨h2,by omega,by omega,by omega,by omega⟩
          split
          · exact wpS_pure ⟨rfl,_,_,_,_,_,_,rfl,.inr ⟨rfl,hI,by omega⟩⟩
          · exact wpS_pure ⟨rfl,_,_,_,_,_,rfl,hI,by omega⟩
      | false=>
        rw[if_neg Bool.false_ne_true]
        refine wpS_bind (wpS_el hu ?_)
        have h2:MR D L T p q (o.push u) i (j - 1):=by
          unfold MR at h ⊢
          rw[Array.toList_push]
          rw[takeR (by omega) hu] at h
          refine MS.movY h fun a ha b hb=>?_
          have ha:a=u:=by simpa using ha
          subst ha
          have hb:=List.mem_reverse.mp hb
          exact hC.tr b v a (hH.dp b (List.mem_of_mem_take hb)) hDv hDu (vge b hb) hL
        by_cases c3:j - 1=1
        · rw[if_pos (by simpa using c3)]
          exact wpS_pure ⟨rfl,_,_,_,_,_,_,rfl,.inl ⟨_,rfl,hH.fin_fb hC h2 c3⟩⟩
        · rw[if_neg (by simpa using c3)]
          have hI:HiI D L p q T (o.push u) i (j - 1):=⟨h2,by omega,by omega,by omega,by omega⟩
          split
          · exact wpS_pure ⟨rfl,_,_,_,_,_,_,rfl,.inr ⟨rfl,hI,by omega⟩⟩
          · exact wpS_pure ⟨rfl,_,_,_,_,_,rfl,hI,by omega⟩
    case p1=>
      rintro c st' ⟨rfl,r,o,i,j,ca,cb,rfl,⟨z,rfl,hz⟩ | ⟨rfl,hI,hw⟩⟩
      · exact wpS_pure ⟨g,rfl,z,o,i,j,mg,rfl,hz⟩
      · dsimp only
        refine wpS_bind (wpS_lift (wpAny_rule ⟨rfl,?_⟩))
        refine wpS_bind (wpS_mono (wpS_forRange (I:=fun y c st'=>(∃ g,st'=setGal st g)∧HiY D L p q T (p.size + q.size - y - (x + 1)) c)
          (Q:=fun c st'=>(∃ g,st'=setGal st g)∧HiQ D L p q T (p.size + q.size - (x + 1)) c) ?s2 ?f2 ⟨⟨g,rfl⟩,_,_,_,_,_,_,rfl,hI,by omega⟩) ?p2)
        case f2=>
          rintro c st' ⟨_,o,i,j,mg,ca,cb,rfl,hI,hx⟩
          have:=hI.li;have:=hI.lj
          omega
        case p2=>
          rintro c st' ⟨⟨g,rfl⟩,r,o,i,j,mg,ca,cb,rfl,⟨z,rfl,hz⟩ | ⟨rfl,hI,hw⟩⟩
          · exact wpS_pure ⟨g,rfl,z,o,i,j,mg,rfl,hz⟩
          · exact wpS_bind (wpS_modify (wpS_pure ⟨_,rfl,o,i,j,mg + 1,rfl,hI,by have:=hI.li;omega⟩))
        case s2=>
          rintro y c st' _ hy ⟨⟨g,rfl⟩,o,i,j,mg,ca,cb,rfl,hI,hw⟩
          have key:∀ mg,wpS M A E s (hiF p q o i j mg ca cb) (fun r st'=>match r with | .done c'=>(∃ g,st'=setGal st g)∧HiQ D L p q T (p.size + q.size - (x + 1)) c' | .yield c'=>(∃ g,st'=setGal st g)∧HiY D L p q T (p.size + q.size - (y + 1) - (x + 1)) c') (setGal st g):=by
            intro mg
            have:=hI.li
            refine wpS_mono (hiF_ok (w:=p.size + q.size - (y + 1) - (x + 1)) hH hC hP hk (by omega) hI) ?_
            rintro r st' ⟨hg,hr⟩
            cases r with
            | done c=>
              obtain ⟨r,o,i,j,mg,ca,cb,rfl,h | ⟨rfl,hI,hw⟩⟩:=hr
              · exact ⟨hg,r,o,i,j,mg,ca,cb,rfl,.inl h⟩
              · exact ⟨hg,none,o,i,j,mg,ca,cb,rfl,.inr ⟨rfl,hI,by omega⟩⟩
            | yield c=>exact ⟨hg,hr⟩
          refine wpS_mono (Q:=fun r st'=>match r with | .done c'=>(∃ g,st'=setGal st g)∧HiQ D L p q T (p.size + q.size - (x + 1)) c' | .yield c'=>(∃ g,st'=setGal st g)∧HiY D L p q T (p.size + q.size - (y + 1) - (x + 1)) c') ?_ (fun r st' hr=>by cases r <;> exact hr)
          by_cases hmg:mg > 1
          · rw[if_pos (show (none,i,j,o,mg,ca,cb).snd.snd.snd.snd.fst > 1 from hmg)]
            refine Eq.mp ?_ (key (mg - 1))
            refine congrArg (fun m=>wpS M A E s m _ _) ?_
            unfold hiF hiD hiE fbh dnh
            dsimp only
          · rw[if_neg (show ¬ (none,i,j,o,mg,ca,cb).snd.snd.snd.snd.fst > 1 from hmg)]
            exact key mg
end
end L2
set_option Elab.async false
set_option linter.all false
set_option maxRecDepth 100000
namespace L2
open PySem PySem.Spec PyProof.Rows
def mAtB (i:Nat):StateT SortSt Sem Bool:=do
  let v ←get
  let (some (sa,na,pw),some (sb,nb,_)):=((pendingOf v)[i]?,(pendingOf v)[i + 1]?) | unsupported "internal:list.sort.pending"
  set (setPending v (((pendingOf v).setIfInBounds i (sa,na + nb,pw)).eraseIdxIfInBounds (i + 1)))
  let some k ←gal false (←elem' (arrOf v) sb) (arrOf v) sa na 0 | return false
  let (sa,na):=(sa + k,na - k)
  if na == 0 then return true
  let some nb ←gal true (←elem' (arrOf v) (sa + na - 1)) (arrOf v) sb nb (nb - 1) | return false
  if nb == 0 then return true
  let x:=(arrOf v).extract sa sb
  let y:=(arrOf v).extract sb (sb + nb)
  let mm ←if na≤nb then mLo x y else mHi x y
  modify fun u=>setArr u (mm.toList.zipIdx.foldl (fun a (p,j)=>a.setIfInBounds (sa + j) p) (arrOf u))
  return (failedOf (←get)).isNone
theorem mAt_eq (i:Nat):mergeAt' i=mAtB i:=rfl
theorem wpS_set {M:Model} {A:Around} {E:Value→Shared→Prop} {s:Shared} {σ:Type} {v:σ} {Q:PUnit→σ→Prop} {st:σ} (h:Q ⟨⟩ v):wpS M A E s (set v:StateT σ Sem PUnit) Q st:=by
  unfold wpS;rw[StateT.run_set];exact wpAny_pure ⟨rfl,h⟩
def putL (a:Array Keyed) (b:Nat) (l:List Keyed):Array Keyed:=l.zipIdx.foldl (fun a (p,j)=>a.setIfInBounds (b + j) p) a
theorem putL_go:∀ (l:List Keyed) (n b:Nat) (a:Array Keyed) (x y z:List Keyed),a.toList=x++y++z→x.length=b + n→y.length=l.length →
    ((l.zipIdx n).foldl (fun a (p,j)=>a.setIfInBounds (b + j) p) a).toList=x++l++z
  | [],n,b,a,x,y,z,h,hx,hy=>by
    have:y=[]:=List.length_eq_zero_iff.mp hy
    subst this;simpa using h
  | e :: l,n,b,a,x,y,z,h,hx,hy=>by
    cases y with
    | nil=>simp at hy
    | cons f y=>
      rw[List.zipIdx_cons,List.foldl_cons]
      have:=putL_go l (n + 1) b (a.setIfInBounds (b + n) e) (x++[e]) y z (by
        rw[Array.toList_setIfInBounds,h,←hx,List.append_assoc,List.cons_append,List.set_append_right _ _ (Nat.le_refl _),Nat.sub_self]
        simp) (by simp;omega) (by simpa using hy)
      rw[this];simp
theorem putL_list {l:List Keyed} {b:Nat} {a:Array Keyed} {x y z:List Keyed} (h:a.toList=x++y++z) (hx:x.length=b) (hy:y.length=l.length):(putL a b l).toList=x++l++z:=
  putL_go l 0 b a x y z h (by omega) hy
section
variable {M:Model} {A:Around} {E:Value→Shared→Prop} {s:Shared} {D:Keyed→Prop} {L:Keyed→Keyed→Bool} {kd:SortKind} {st:SortSt}
theorem slice {a:Array Keyed} {x y z:List Keyed} {b n:Nat} (h:a.toList=x++y++z) (hb:b=x.length) (hn:n=y.length):(a.toList.drop b).take n=y:=by
  rw[h,hb,hn,List.append_assoc,List.drop_left,List.take_left]
theorem mAt_ok {i pw pw2:Nat} {W X Y Z:List Keyed} {Q:Bool→SortSt→Prop} (hC:Cmp D L) (hP:PureC M A E s D L kd) (hk:kindOf st=kd) (hf:failedOf st=none)
    (ha:(arrOf st).toList=W++X++Y++Z) (hd:∀ u∈(arrOf st).toList,D u) (hX:X≠[]) (hY:Y≠[]) (sX:X.Pairwise (Le L)) (sY:Y.Pairwise (Le L))
    (h1:(pendingOf st)[i]?=some (W.length,X.length,pw)) (h2:(pendingOf st)[i + 1]?=some (W.length + X.length,Y.length,pw2))
    (hQ:∀ (V:List Keyed) (a:Array Keyed) g,a.toList=W++V++Z→V.Perm (X++Y)→V.Pairwise (Le L)→Q true (SortSt.mk' kd a (((pendingOf st).setIfInBounds i (W.length,X.length + Y.length,pw)).eraseIdxIfInBounds (i + 1)) g none)):
    wpS M A E s (mergeAt' i) Q st:=by
  rw[mAt_eq];unfold mAtB
  refine wpS_bind (wpS_get ?_)
  rw[h1,h2]
  dsimp only
  refine wpS_bind (wpS_set ?_)
  have hsz:(arrOf st).size=W.length + X.length + Y.length + Z.length:=by rw[←Array.length_toList,ha];simp;omega
  have hXp:0 < X.length:=List.length_pos_iff.mpr hX
  have hYp:0 < Y.length:=List.length_pos_iff.mpr hY
  have dX:∀ u∈X,D u:=fun u hu=>hd u (by rw[ha];simp [hu])
  have dY:∀ u∈Y,D u:=fun u hu=>hd u (by rw[ha];simp [hu])
  obtain ⟨y0,Y',rfl⟩:∃ y l,Y=y :: l:=by cases Y with | nil=>exact absurd rfl hY | cons y l=>exact ⟨y,l,rfl⟩
  have hy0:(arrOf st)[W.length + X.length]?=some y0:=by
    rw[←Array.getElem?_toList,ha,List.append_assoc,List.getElem?_append_right (by simp)]
    simp
  have dy0:=dY y0 (by simp)
  refine wpS_bind (wpS_el hy0 ?_)
  have sl1:=slice (a:=arrOf st) (x:=W) (y:=X) (z:=y0 :: Y'++Z) (b:=W.length) (n:=X.length) (by rw[ha];simp) rfl rfl
  have sl2:=slice (a:=arrOf st) (x:=W++X) (y:=y0 :: Y') (z:=Z) (b:=W.length + X.length) (n:=(y0 :: Y').length) (by rw[ha]) (by simp) rfl
  refine wpS_bind (gal_ok hC hP (by exact hk) (by omega) hXp dy0 hd (by rw[sl1];exact sX) ?_)
  rw[sl1]
  intro k hkn ha1 hb1
  replace ha1:∀ u∈X.take k,Le L u y0:=ha1
  replace hb1:∀ u∈X.drop k,L y0 u=true:=hb1
  dsimp only
  have y0le:∀ v∈y0 :: Y',Le L y0 v:=by
    intro v hv
    rcases List.mem_cons.mp hv with rfl | hv
    · exact le_refl' hC dy0
    · exact (List.pairwise_cons.mp sY).1 v hv
  have X1Y:∀ u∈X.take k,∀ v∈y0 :: Y',Le L u v:=fun u hu v hv=>hC.tr u y0 v (dX u (List.mem_of_mem_take hu)) dy0 (dY v hv) (ha1 u hu) (y0le v hv)
  by_cases c1:X.length - k=0
  · rw[if_pos (by simpa using c1)]
    refine wpS_pure ?_
    have e:X.take k=X:=List.take_of_length_le (by omega)
    rw[e] at X1Y
    have:=hQ (X++(y0 :: Y')) (arrOf st) (gallopOf st) (by rw[ha];simp) (List.Perm.refl _) (List.pairwise_append.mpr ⟨sX,sY,X1Y⟩)
    rw[←hk,←hf] at this
    exact this
  rw[if_neg (by simpa using c1)]
  obtain ⟨xl,hxl⟩:∃ xl,X[X.length - 1]?=some xl:=⟨X[X.length - 1],List.getElem?_eq_getElem (by omega)⟩
  have hxm:xl∈X:=List.mem_of_getElem? hxl
  have hxl2:xl∈X.drop k:=by
    refine List.mem_of_getElem? (i:=X.length - 1 - k) ?_
    rw[List.getElem?_drop,←hxl];congr 1;omega
  have hxa:(arrOf st)[W.length + k + (X.length - k) - 1]?=some xl:=by
    rw[←Array.getElem?_toList,ha,List.append_assoc,List.append_assoc,List.getElem?_append_right (by omega),List.getElem?_append_left (by omega),←hxl]
    congr 1;omega
  refine wpS_bind (wpS_el hxa ?_)
  refine wpS_bind (gal_ok hC hP (by exact hk) (by simp at hsz ⊢;omega) (by simp) (dX xl hxm) hd (by rw[sl2];exact sY) ?_)
  rw[sl2]
  intro n hnn ha2 hb2
  replace ha2:∀ u∈(y0 :: Y').take n,L u xl=true:=ha2
  replace hb2:∀ u∈(y0 :: Y').drop n,Le L xl u:=hb2
  dsimp only
  have hn0:n≠0:=by
    rintro rfl
    have h5:=hb1 xl hxl2
    rw[show L y0 xl=false from hb2 y0 (by simp)] at h5
    cases h5
  rw[if_neg (by simpa using hn0)]
  obtain ⟨x,hx⟩:∃ x,x=(arrOf st).extract (W.length + k) (W.length + X.length):=⟨_,rfl⟩
  obtain ⟨y,hy⟩:∃ y,y=(arrOf st).extract (W.length + X.length) (W.length + X.length + n):=⟨_,rfl⟩
  have xL:x.toList=X.drop k:=by
    rw[hx,Array.toList_extract,List.extract]
    exact slice (x:=W++X.take k) (z:=y0 :: Y'++Z) (by rw[ha];simp only[List.append_assoc];rw[←List.append_assoc (X.take k),List.take_append_drop]) (by rw[List.length_append,List.length_take,Nat.min_eq_left hkn]) (by rw[List.length_drop];omega)
  have yL:y.toList=(y0 :: Y').take n:=by
    rw[hy,Array.toList_extract,List.extract]
    exact slice (x:=W++X) (z:=(y0 :: Y').drop n++Z) (by rw[ha];simp only[List.append_assoc];rw[←List.append_assoc (List.take n _),List.take_append_drop]) (by rw[List.length_append]) (by rw[List.length_take,Nat.min_eq_left hnn];omega)
  have xS:x.size=X.length - k:=by rw[←Array.length_toList,xL,List.length_drop]
  have yS:y.size=n:=by rw[←Array.length_toList,yL,List.length_take,Nat.min_eq_left hnn]
  have y1:y.toList.take 1=[y0]:=by
    rw[yL,List.take_take,Nat.min_eq_left (by omega)];simp
  have xd:∀ v∈x.toList.drop (x.size - 1),v=xl:=by
    intro v hv
    rw[xL,xS,List.drop_drop] at hv
    have:X.drop (k + (X.length - k - 1))=[xl]:=by
      obtain ⟨h5,h6⟩:=List.getElem?_eq_some_iff.mp hxl
      rw[show k + (X.length - k - 1)=X.length - 1 by omega,List.drop_eq_getElem_cons h5,h6,List.drop_eq_nil_of_le (by omega)]
    rw[this] at hv
    simpa using hv
  have dx:∀ u∈x.toList,D u:=fun u hu=>dX u (List.mem_of_mem_drop (xL▸hu))
  have dy:∀ u∈y.toList,D u:=fun u hu=>dY u (List.mem_of_mem_take (yL▸hu))
  have sx:x.toList.Pairwise (Le L):=by rw[xL];exact sX.sublist (List.drop_sublist _ _)
  have sy:y.toList.Pairwise (Le L):=by rw[yL];exact sY.sublist (List.take_sublist _ _)
  have y0x:∀ v∈x.toList,L y0 v=true:=fun v hv=>hb1 v (xL▸hv)
  have yxl:∀ u∈y.toList,L u xl=true:=fun u hu=>ha2 u (yL▸hu)
  have main:∀ (z:Array Keyed) g,Fin1 L (x.toList++y.toList) z→wpS M A E s (do
      modify fun u=>setArr u (putL (arrOf u) (W.length + k) z.toList)
      return (failedOf (←get)).isNone) Q (setGal (setPending st (((pendingOf st).setIfInBounds i (W.length,X.length + (y0 :: Y').length,pw)).eraseIdxIfInBounds (i + 1))) g):=by
    rintro z g ⟨hz1,hz2⟩
    refine wpS_bind (wpS_modify (wpS_bind (wpS_get (wpS_pure ?_))))
    show Q (failedOf st).isNone _
    rw[hf]
    have hzl:(X.drop k++(y0 :: Y').take n).length=z.toList.length:=by rw[hz1.length_eq,xL,yL]
    have hp:(putL (arrOf st) (W.length + k) z.toList).toList=W++(X.take k++z.toList++(y0 :: Y').drop n)++Z:=by
      rw[putL_list (x:=W++X.take k) (y:=X.drop k++(y0 :: Y').take n) (z:=(y0 :: Y').drop n++Z) (by
        rw[ha];simp only[List.append_assoc]
        rw[←List.append_assoc (List.take n _),List.take_append_drop,←List.append_assoc (X.take k),List.take_append_drop]) (by rw[List.length_append,List.length_take,Nat.min_eq_left hkn]) hzl]
      simp only[List.append_assoc]
    have zm:∀ v∈z.toList,v∈X.drop k∨v∈(y0 :: Y').take n:=fun v hv=>by
      have:=hz1.mem_iff.mp hv
      rw[xL,yL] at this
      exact List.mem_append.mp this
    have dxl:=dX xl hxm
    have:=hQ (X.take k++z.toList++(y0 :: Y').drop n) _ g hp ?_ ?_
    · rw[←hk,←hf] at this
      exact this
    · have e1:(X.take k++z.toList++(y0 :: Y').drop n).Perm (X.take k++(X.drop k++(y0 :: Y').take n)++(y0 :: Y').drop n):=by
        refine List.Perm.append_right _ (List.Perm.append_left _ ?_)
        rw[xL,yL] at hz1;exact hz1
      refine e1.trans (List.Perm.of_eq ?_)
      rw[←List.append_assoc,List.take_append_drop,List.append_assoc,List.take_append_drop]
    · have zY2:∀ u∈z.toList,∀ v∈(y0 :: Y').drop n,Le L u v:=by
        intro u hu v hv
        rcases zm u hu with h | h
        · have hux:Le L u xl:=by
            have e5:X=X.take (X.length - 1)++[xl]:=by
              obtain ⟨h5,h6⟩:=List.getElem?_eq_some_iff.mp hxl
              conv=>lhs;rw[←List.take_append_drop (X.length - 1) X,List.drop_eq_getElem_cons h5,h6,List.drop_eq_nil_of_le (by omega)]
            have hu':u∈X:=List.mem_of_mem_drop h
            rw[e5] at sX hu'
            rcases List.mem_append.mp hu' with hu' | hu'
            · exact (List.pairwise_append.mp sX).2.2 u hu' xl (by simp)
            · have:u=xl:=by simpa using hu'
              subst this;exact le_refl' hC dxl
          exact hC.tr u xl v (dX u (List.mem_of_mem_drop h)) dxl (dY v (List.mem_of_mem_drop hv)) hux (hb2 v hv)
        · have e5:=sY
          rw[←List.take_append_drop n (y0 :: Y')] at e5
          exact (List.pairwise_append.mp e5).2.2 u h v hv
      rw[List.pairwise_append,List.pairwise_append]
      refine ⟨⟨sX.sublist (List.take_sublist _ _),hz2,fun u hu v hv=>?_⟩,sY.sublist (List.drop_sublist _ _),fun u hu v hv=>?_⟩
      · rcases zm v hv with h | h
        · have e5:=sX
          rw[←List.take_append_drop k X] at e5
          exact (List.pairwise_append.mp e5).2.2 u hu v h
        · exact X1Y u hu v (List.mem_of_mem_take h)
      · rcases List.mem_append.mp hu with hu | hu
        · exact X1Y u hu v (List.mem_of_mem_drop hv)
        · exact zY2 u hu v hv
  have xp:0 < x.size:=by omega
  have yp:0 < y.size:=by omega
  rw[←hx,←hy]
  by_cases c3:X.length - k≤n
  · rw[if_pos c3]
    refine wpS_bind (mLo_ok (st:=setPending st _) ⟨dx,dy,sx,sy,fun u hu v hv=>by rw[xd v hv];exact yxl u hu⟩ hC hP (by exact hk) xp yp (fun u hu v hv=>?_) fun z g hz=>main z g hz)
    have hu:u=y0:=by rw[y1] at hu;simpa using hu
    subst hu
    exact hC.asym u v dy0 (dx v hv) (y0x v hv)
  · rw[if_neg c3]
    refine wpS_bind (mHi_ok (st:=setPending st _) ⟨dx,dy,sx,sy,fun u hu v hv=>by rw[y1] at hu;rw[show u=y0 by simpa using hu];exact y0x v hv⟩ hC hP (by exact hk) xp yp (fun u hu v hv=>?_) fun z g hz=>main z g hz)
    rw[xd u hu]
    exact hC.asym v xl (dy v hv) (dX xl hxm) (yxl v hv)
end
end L2
set_option Elab.async false
set_option linter.all false
set_option maxRecDepth 100000
namespace L2
open PySem PySem.Spec PyProof.Rows
abbrev CmpT (L:Keyed→Keyed→Bool):Prop:=Cmp (fun _=>True) L
theorem CmpT.to {L:Keyed→Keyed→Bool} {D:Keyed→Prop} (h:CmpT L):Cmp D L:=⟨fun x y _ _=>h.asym x y trivial trivial,fun x y z _ _ _=>h.tr x y z trivial trivial trivial⟩
theorem CmpT.rf {L:Keyed→Keyed→Bool} (h:CmpT L) (x:Keyed):Le L x x:=le_refl' h trivial
theorem CmpT.le {L:Keyed→Keyed→Bool} (h:CmpT L) {x y:Keyed} (e:L x y=true):Le L x y:=h.asym x y trivial trivial e
theorem CmpT.t {L:Keyed→Keyed→Bool} (h:CmpT L) {x y z:Keyed} (e:Le L x y) (f:Le L y z):Le L x z:=h.tr x y z trivial trivial trivial e f
theorem CmpT.lt_le {L:Keyed→Keyed→Bool} (h:CmpT L) {x y z:Keyed} (e:L x y=true) (f:Le L y z):L x z=true:=by
  cases hx:L x z with
  | true=>rfl
  | false=>rw[h.tr y z x trivial trivial trivial f hx] at e;cases e
def at0 (a:Array Keyed) (i:Nat):Keyed:=(a[i]?).getD (.none,.none)
theorem at0_congr {a b:Array Keyed} {i j:Nat} (h:a[i]?=b[j]?):at0 a i=at0 b j:=by unfold at0;rw[h]
def SegU (L:Keyed→Keyed→Bool) (a:Array Keyed) (l h:Nat):Prop:=∀ i j,l≤i→i≤j→j < h→Le L (at0 a i) (at0 a j)
def SegD (L:Keyed→Keyed→Bool) (a:Array Keyed) (l h:Nat):Prop:=∀ i j,l≤i→i≤j→j < h→Le L (at0 a j) (at0 a i)
structure Kept (lo:Nat) (a b:Array Keyed):Prop where
  perm:b.Perm a
  pre:∀ k,k < lo→b[k]?=a[k]?
theorem Kept.rf (lo:Nat) (a:Array Keyed):Kept lo a a:=⟨Array.Perm.refl _,fun _ _=>rfl⟩
theorem Kept.tr {lo:Nat} {a b c:Array Keyed} (h:Kept lo a b) (k:Kept lo b c):Kept lo a c:=⟨k.perm.trans h.perm,fun i hi=>(k.pre i hi).trans (h.pre i hi)⟩
theorem Kept.sz {lo:Nat} {a b:Array Keyed} (h:Kept lo a b):b.size=a.size:=h.perm.size_eq
theorem Kept.d {lo:Nat} {a b:Array Keyed} {D:Keyed→Prop} (h:Kept lo a b) (hd:∀ u∈a.toList,D u):∀ u∈b.toList,D u:=fun u hu=>hd u ((Array.perm_iff_toList_perm.mp h.perm).mem_iff.mp hu)
theorem at0_bub {xs:Array Keyed} {src d:Nat} (hs:src < xs.size) (hd:d≤src) (k:Nat):
    at0 (bubble xs src d) k=if k=src - d then at0 xs src else if src - d < k∧k≤src then at0 xs (k - 1) else at0 xs k:=by
  have e:=getElem?_bubble hs d hd k
  repeat' split
  all_goals (refine at0_congr (e.trans ?_);first | rw[if_pos (by assumption)] | (rw[if_neg (by assumption)];first | rw[if_pos (by assumption)] | rw[if_neg (by assumption)]))
theorem at0_mir {xs:Array Keyed} {i j:Nat} (hj:j≤xs.size) (k:Nat):
    at0 (mirror xs i j ((j - i) / 2)) k=if i≤k∧k < j then at0 xs (i + j - 1 - k) else at0 xs k:=by
  have e:=getElem?_mirror_all (i:=i) hj k
  split
  · exact at0_congr (e.trans (if_pos (by assumption)))
  · exact at0_congr (e.trans (if_neg (by assumption)))
theorem Kept.bub {lo src d:Nat} {a:Array Keyed} (hs:src < a.size) (hd:lo + d≤src):Kept lo a (bubble a src d):=
  ⟨bubble_perm _ _ _,fun k hk=>by rw[getElem?_bubble hs d (by omega),if_neg (by omega),if_neg (by omega)]⟩
theorem Kept.mir {lo i j:Nat} {a:Array Keyed} (hj:j≤a.size) (hl:lo≤i):Kept lo a (mirror a i j ((j - i) / 2)):=
  ⟨mirror_perm _ _ _ _,fun k hk=>by rw[getElem?_mirror_all hj,if_neg (by omega)]⟩
section
variable {M:Model} {A:Around} {E:Value→Shared→Prop} {s:Shared} {D:Keyed→Prop} {L:Keyed→Keyed→Bool} {kd:SortKind} {st:SortSt}
theorem ltO_ok {a:Array Keyed} {i j:Nat} {Q:Option Bool→SortSt→Prop} (hP:PureC M A E s D L kd) (hk:kindOf st=kd) (hd:∀ u∈a.toList,D u) (hi:i < a.size) (hj:j < a.size)
    (q:Q (some (L (at0 a i) (at0 a j))) (setArr st a)):wpS M A E s (ltAt' i j) Q (setArr st a):=by
  obtain ⟨x,hx,hxm⟩:=at? hi
  obtain ⟨y,hy,hym⟩:=at? hj
  have ex:at0 a i=x:=by unfold at0;rw[hx];rfl
  have ey:at0 a j=y:=by unfold at0;rw[hy];rfl
  rw[ex,ey] at q
  rw[ltAt'_eq]
  refine wpS_bind (wpS_get ?_)
  exact wpS_bind (wpS_el hx (wpS_bind (wpS_el hy (hP _ _ _ _ hk (hd x hxm) (hd y hym) q))))
theorem binO_ok {a:Array Keyed} {lo n ok:Nat} {Q:Bool→SortSt→Prop} (hC:CmpT L) (hP:PureC M A E s D L kd) (hk:kindOf st=kd) (hd:∀ u∈a.toList,D u) (hn:lo + n≤a.size) (hok:ok≤n)
    (hs:SegU L a lo (lo + ok)) (h:∀ b,Kept lo a b→SegU L b lo (lo + n)→Q true (setArr st b)):wpS M A E s (binarySort' lo n ok) Q (setArr st a):=by
  rw[binarySort'_eq]
  refine wpS_bind (wpS_mono (wpS_forRange (I:=fun k c st'=>c=(none,())∧∃ b,st'=setArr st b∧Kept lo a b∧SegU L b lo (lo + min k n))
    (Q:=fun c st'=>c=(none,())∧∃ b,st'=setArr st b∧Kept lo a b∧SegU L b lo (lo + n)) ?step ?fin ?init) ?post)
  case post=>
    rintro c st' ⟨rfl,b,rfl,hb,hs'⟩
    exact wpS_pure (h b hb hs')
  case init=>
    refine ⟨rfl,a,rfl,Kept.rf _ _,fun i j hl hij hj=>?_⟩
    by_cases h1:ok=0
    · have:i=j:=by omega
      subst this;exact hC.rf _
    · exact hs i j hl hij (by omega)
  case fin=>
    rintro c st' ⟨hc,b,hst,hb,hs'⟩
    refine ⟨hc,b,hst,hb,?_⟩
    rwa [show min (max (max ok 1) n) n=n by omega] at hs'
  case step=>
    rintro k c st' hak hkn ⟨rfl,b,rfl,hb,hs'⟩
    rw[show min k n=k by omega] at hs'
    have hsz:=hb.sz
    have hdb:=hb.d hd
    refine wpS_bind (wpS_mono (wpS_forRange (I:=fun x c st''=>st''=setArr st b∧∃ l r,c=(none,l,r)∧l≤r∧r≤k∧r - l≤k - x ∧
        (∀ i,lo≤i→i < lo + l→Le L (at0 b i) (at0 b (lo + k)))∧(∀ i,lo + r≤i→i < lo + k→L (at0 b (lo + k)) (at0 b i)=true))
      (Q:=fun c st''=>st''=setArr st b∧∃ l r,c=(none,l,r)∧l≤k ∧
        (∀ i,lo≤i→i < lo + l→Le L (at0 b i) (at0 b (lo + k)))∧(∀ i,lo + l≤i→i < lo + k→L (at0 b (lo + k)) (at0 b i)=true)) ?istep ?ifin ?iinit) ?ipost)
    case iinit=>exact ⟨rfl,0,k,rfl,by omega,by omega,by omega,fun i h1 hi=>by omega,fun i h1 h2=>by omega⟩
    case ifin=>
      rintro c st'' ⟨rfl,l,r,rfl,hlr,hrk,hm,hlo,hhi⟩
      have:l=r:=by omega
      subst this
      exact ⟨rfl,l,l,rfl,hrk,hlo,hhi⟩
    case istep=>
      rintro x c st'' _ hxk ⟨rfl,l,r,rfl,hlr,hrk,hm,hlo,hhi⟩
      dsimp only
      by_cases hge:l≥r
      · rw[if_pos hge]
        have:l=r:=by omega
        subst this
        exact wpS_pure ⟨rfl,l,l,rfl,hrk,hlo,hhi⟩
      · rw[if_neg hge]
        refine wpS_bind (ltO_ok hP hk hdb (by omega) (by omega) ?_)
        cases hless:L (at0 b (lo + k)) (at0 b (lo + (l + r) / 2)) with
        | true=>exact wpS_pure ⟨rfl,l,(l + r) / 2,rfl,by omega,by omega,by omega,hlo,fun i h1 h2=>hC.lt_le hless (hs' _ _ (by omega) h1 h2)⟩
        | false=>exact wpS_pure ⟨rfl,(l + r) / 2 + 1,r,rfl,by omega,by omega,by omega,fun i h0 h1=>hC.t (hs' i (lo + (l + r) / 2) h0 (by omega) (by omega)) hless,hhi⟩
    case ipost=>
      rintro c st'' ⟨rfl,l,r,rfl,hlk,hlo,hhi⟩
      show wpS _ _ _ _ (do moveDown' (lo + k) (lo + l);pure (ForInStep.yield (none,()))) _ _
      rw[moveDown'_eq]
      have hks:lo + k < b.size:=by omega
      refine wpS_bind (wpS_modify (wpS_pure ⟨rfl,bubble b (lo + k) (lo + k - (lo + l)),rfl,hb.tr (Kept.bub hks (by omega)),?_⟩))
      rw[show min (k + 1) n=k + 1 by omega]
      intro i j hl hij hj
      rw[at0_bub hks (by omega),at0_bub hks (by omega),show lo + k - (lo + k - (lo + l))=lo + l by omega]
      repeat' split
      all_goals first
        | (exfalso;omega)
        | exact hC.rf _
        | exact hlo _ (by omega) (by omega)
        | exact hC.le (hhi _ (by omega) (by omega))
        | exact hs' _ _ (by omega) (by omega) (by omega)
end
end L2
set_option Elab.async false
set_option linter.all false
set_option maxRecDepth 100000
namespace L2
open PySem PySem.Spec PyProof.Rows
def ascO (lo a nr:Nat):StateT SortSt Sem AscSt:=
  forIn [a:nr] ((none,a):AscSt) fun _ c=>do
    let x ←ltAt' (lo + c.snd) (lo + c.snd - 1)
    match x with
    | some sm=>if sm=true then pure (ForInStep.done (none,c.snd)) else pure (ForInStep.yield (none,c.snd + 1))
    | _=>pure (ForInStep.done (some none,c.snd))
def tailO (lo n nr:Nat):StateT SortSt Sem (Option Nat):=do
  reverseSlice' lo (lo + n)
  let c ←ascO lo n nr
  match c.fst with
  | some r=>pure r
  | none=>pure (some c.snd)
def descO (lo n nr:Nat):StateT SortSt Sem DescSt:=
  forIn [n:nr] ((none,n,0):DescSt) fun _ c=>do
    let x ←ltAt' (lo + c.snd.fst) (lo + c.snd.fst - 1)
    match x with
    | some sm=>
      if sm=true then
        if c.snd.snd > 0 then do
          reverseSlice' (lo + c.snd.fst - (c.snd.snd + 1)) (lo + c.snd.fst)
          pure (ForInStep.yield (none,c.snd.fst + 1,0))
        else pure (ForInStep.yield (none,c.snd.fst + 1,0))
      else do
        let y ←ltAt' (lo + c.snd.fst - 1) (lo + c.snd.fst)
        match y with
        | some lg=>
          if lg=true then pure (ForInStep.done (none,c.snd.fst,c.snd.snd))
          else pure (ForInStep.yield (none,c.snd.fst + 1,c.snd.snd + 1))
        | _=>pure (ForInStep.done (some none,c.snd.fst,c.snd.snd))
    | _=>pure (ForInStep.done (some none,c.snd.fst,c.snd.snd))
section
variable {M:Model} {A:Around} {E:Value→Shared→Prop} {s:Shared} {D:Keyed→Prop} {L:Keyed→Keyed→Bool} {kd:SortKind} {st:SortSt}
def Eqv (L:Keyed→Keyed→Bool) (x y:Keyed):Prop:=Le L x y∧Le L y x
theorem revO_ok {a:Array Keyed} {i j:Nat} {Q:Unit→SortSt→Prop} (q:Q () (setArr st (mirror a i j ((j - i) / 2)))):wpS M A E s (reverseSlice' i j) Q (setArr st a):=by
  rw[reverseSlice'_eq];exact wpS_modify q
theorem ascO_ok {a:Array Keyed} {lo n0 nr:Nat} {Q:AscSt→SortSt→Prop} (hC:CmpT L) (hP:PureC M A E s D L kd) (hk:kindOf st=kd) (hd:∀ u∈a.toList,D u) (hn:lo + nr≤a.size) (h1:1≤n0) (hnn:n0≤nr)
    (hs:SegU L a lo (lo + n0)) (h:∀ n,n0≤n→n≤nr→SegU L a lo (lo + n)→(n=nr∨L (at0 a (lo + n)) (at0 a (lo + n - 1))=true)→Q (none,n) (setArr st a)):wpS M A E s (ascO lo n0 nr) Q (setArr st a):=by
  unfold ascO
  refine wpS_forRange (I:=fun x c st'=>st'=setArr st a∧c=(none,x)∧SegU L a lo (lo + x)) ?step ?fin ⟨rfl,rfl,hs⟩
  case fin=>
    rintro c st' ⟨rfl,rfl,hs'⟩
    rw[show max n0 nr=nr by omega] at hs' ⊢
    exact h nr hnn (Nat.le_refl _) hs' (.inl rfl)
  case step=>
    rintro x c st' hax hxn ⟨rfl,rfl,hs'⟩
    dsimp only
    refine wpS_bind (ltO_ok hP hk hd (by omega) (by omega) ?_)
    cases hl:L (at0 a (lo + x)) (at0 a (lo + x - 1)) with
    | true=>exact wpS_pure (h x hax (by omega) hs' (.inr hl))
    | false=>
      refine wpS_pure ⟨rfl,rfl,fun i j hli hij hj=>?_⟩
      by_cases hjx:j < lo + x
      · exact hs' i j hli hij hjx
      · have hj':j=lo + x:=by omega
        subst hj'
        by_cases hi':i=lo + x
        · subst hi';exact hC.rf _
        · exact hC.t (hs' i (lo + x - 1) hli (by omega) (by omega)) hl
theorem tailO_ok {a:Array Keyed} {lo n nr:Nat} {Q:Option Nat→SortSt→Prop} (hC:CmpT L) (hP:PureC M A E s D L kd) (hk:kindOf st=kd) (hd:∀ u∈a.toList,D u) (hn:lo + nr≤a.size) (h1:1≤n) (hnn:n≤nr)
    (hs:SegD L a lo (lo + n)) (h:∀ b m,Kept lo a b→1≤m→m≤nr→SegU L b lo (lo + m)→Q (some m) (setArr st b)):wpS M A E s (tailO lo n nr) Q (setArr st a):=by
  unfold tailO
  refine wpS_bind (revO_ok ?_)
  have hK:Kept lo a (mirror a lo (lo + n) ((lo + n - lo) / 2)):=Kept.mir (by omega) (Nat.le_refl _)
  refine wpS_bind (ascO_ok hC hP hk (hK.d hd) (by rw[hK.sz];exact hn) h1 hnn ?_ fun m hm1 hm2 hsm _=>wpS_pure (h _ m hK (by omega) hm2 hsm))
  intro i j hli hij hj
  rw[at0_mir (by omega),at0_mir (by omega),if_pos (by omega),if_pos (by omega)]
  exact hs _ _ (by omega) (by omega) (by omega)
theorem mir_eqv {a:Array Keyed} {i j:Nat} (hC:CmpT L) (hj:j≤a.size) (he:∀ k,i≤k→k < j→Eqv L (at0 a k) (at0 a (j - 1))) (k:Nat):Eqv L (at0 (mirror a i j ((j - i) / 2)) k) (at0 a k):=by
  rw[at0_mir hj]
  split
  · have e1:=he (i + j - 1 - k) (by omega) (by omega)
    have e2:=he k (by omega) (by omega)
    exact ⟨hC.t e1.1 e2.2,hC.t e2.1 e1.2⟩
  · exact ⟨hC.rf _,hC.rf _⟩
theorem SegD.eqv {a b:Array Keyed} {l h:Nat} (hC:CmpT L) (hs:SegD L a l h) (he:∀ k,Eqv L (at0 b k) (at0 a k)):SegD L b l h:=
  fun i j h1 h2 h3=>hC.t (he j).1 (hC.t (hs i j h1 h2 h3) (he i).2)
theorem SegD.more {a:Array Keyed} {l x:Nat} (hC:CmpT L) (hs:SegD L a l x) (hle:l < x→Le L (at0 a x) (at0 a (x - 1))):SegD L a l (x + 1):=by
  intro i j hli hij hj
  by_cases hjx:j < x
  · exact hs i j hli hij hjx
  · have hj':j=x:=by omega
    subst hj'
    by_cases hi':i=j
    · subst hi';exact hC.rf _
    · exact hC.t (hle (by omega)) (hs i (j - 1) hli (by omega) (by omega))
theorem descO_ok {a:Array Keyed} {lo n nr:Nat} {Q:DescSt→SortSt→Prop} (hC:CmpT L) (hP:PureC M A E s D L kd) (hk:kindOf st=kd) (hd:∀ u∈a.toList,D u) (hn:lo + nr≤a.size) (h1:1≤n) (hnn:n≤nr)
    (hs:SegD L a lo (lo + n))
    (h:∀ b m nq,Kept lo a b→n≤m→m≤nr→SegD L b lo (lo + m)→nq + 1≤m→(∀ i,lo + m - (nq + 1)≤i→i < lo + m→Eqv L (at0 b i) (at0 b (lo + m - 1)))→Q (none,m,nq) (setArr st b)):
    wpS M A E s (descO lo n nr) Q (setArr st a):=by
  unfold descO
  refine wpS_forRange (I:=fun x c st'=>∃ b nq,st'=setArr st b∧c=(none,x,nq)∧Kept lo a b∧SegD L b lo (lo + x)∧nq + 1≤x ∧
      (∀ i,lo + x - (nq + 1)≤i→i < lo + x→Eqv L (at0 b i) (at0 b (lo + x - 1)))) ?step ?fin ⟨a,0,rfl,rfl,Kept.rf _ _,hs,by omega,fun i h1 h2=>by rw[show i=lo + n - 1 by omega];exact ⟨hC.rf _,hC.rf _⟩⟩
  case fin=>
    rintro c st' ⟨b,nq,rfl,rfl,hK,hs',hq,he⟩
    rw[show max n nr=nr by omega] at hs' hq he ⊢
    exact h b nr nq hK hnn (Nat.le_refl _) hs' hq he
  case step=>
    rintro x c st' hax hxn ⟨b,nq,rfl,rfl,hK,hs',hq,he⟩
    have hbs:=hK.sz
    have hdb:=hK.d hd
    dsimp only
    refine wpS_bind (ltO_ok hP hk hdb (by omega) (by omega) ?_)
    cases hl:L (at0 b (lo + x)) (at0 b (lo + x - 1)) with
    | true=>
      have hmore:SegD L b lo (lo + x + 1):=hs'.more hC fun _=>hC.le hl
      dsimp only
      by_cases hq0:nq > 0
      · rw[if_pos rfl,if_pos hq0]
        refine wpS_bind (revO_ok (wpS_pure ⟨_,0,rfl,rfl,hK.tr (Kept.mir (by omega) (by omega)),hmore.eqv hC (mir_eqv hC (by omega) he),by omega,fun i h1 h2=>?_⟩))
        rw[show i=lo + (x + 1) - 1 by omega];exact ⟨hC.rf _,hC.rf _⟩
      · rw[if_pos rfl,if_neg hq0]
        refine wpS_pure ⟨b,0,rfl,rfl,hK,hmore,by omega,fun i h1 h2=>?_⟩
        rw[show i=lo + (x + 1) - 1 by omega];exact ⟨hC.rf _,hC.rf _⟩
    | false=>
      dsimp only
      rw[if_neg Bool.false_ne_true]
      refine wpS_bind (ltO_ok hP hk hdb (by omega) (by omega) ?_)
      cases hg:L (at0 b (lo + x - 1)) (at0 b (lo + x)) with
      | true=>exact wpS_pure (h b x nq hK hax (by omega) hs' hq he)
      | false=>
        refine wpS_pure ⟨b,nq + 1,rfl,rfl,hK,hs'.more hC fun _=>hg,by omega,fun i h1 h2=>?_⟩
        rw[show lo + (x + 1) - 1=lo + x by omega]
        by_cases hix:i=lo + x
        · subst hix;exact ⟨hC.rf _,hC.rf _⟩
        · have e:=he i (by omega) (by omega)
          exact ⟨hC.t e.1 hl,hC.t hg e.2⟩
theorem cntO_ok {a:Array Keyed} {lo nr:Nat} {Q:Option Nat→SortSt→Prop} (hC:CmpT L) (hP:PureC M A E s D L kd) (hk:kindOf st=kd) (hd:∀ u∈a.toList,D u) (hn:lo + nr≤a.size) (h1:1≤nr)
    (h:∀ b m,Kept lo a b→1≤m→m≤nr→SegU L b lo (lo + m)→Q (some m) (setArr st b)):wpS M A E s (countRun' lo nr) Q (setArr st a):=by
  rw[countRun'_eq]
  refine wpS_bind (wpS_mono (ascO_ok (Q:=fun c st'=>∃ n,c=(none,n)∧st'=setArr st a∧1≤n∧n≤nr∧SegU L a lo (lo + n)∧(n=nr∨L (at0 a (lo + n)) (at0 a (lo + n - 1))=true)) hC hP hk hd hn (Nat.le_refl 1) h1 (fun i j hl hij hj=>by have:i=j:=(by omega);subst this;exact hC.rf _) fun n a1 a2 a3 a4=>⟨n,rfl,rfl,a1,a2,a3,a4⟩) ?_)
  rintro c st' ⟨n,rfl,rfl,hn1,hn2,hsn,hor⟩
  dsimp only
  by_cases hnn:n=nr
  · rw[if_pos (by simpa using hnn)]
    exact wpS_pure (h a n (Kept.rf _ _) hn1 hn2 hsn)
  · rw[if_neg (by simpa using hnn)]
    have hlt:=hor.resolve_left hnn
    by_cases hgt:n > 1
    · rw[if_pos hgt]
      refine wpS_bind (ltO_ok hP hk hd (by omega) (by omega) ?_)
      cases hrose:L (at0 a lo) (at0 a (lo + n - 1)) with
      | true=>
        dsimp only
        rw[if_pos rfl]
        exact wpS_pure (h a n (Kept.rf _ _) hn1 hn2 hsn)
      | false=>
        dsimp only
        rw[if_neg Bool.false_ne_true]
        have hall:∀ k,lo≤k→k < lo + n→Eqv L (at0 a k) (at0 a (lo + n - 1)):=by
          intro k hk1 hk2
          have a1:=hsn lo k (by omega) hk1 hk2
          have a2:=hsn k (lo + n - 1) hk1 (by omega) (by omega)
          exact ⟨a2,hC.t hrose a1⟩
        have hsd:SegD L a lo (lo + (n + 1)):=by
          refine SegD.more hC (fun i j h1 h2 h3=>?_) fun _=>hC.le hlt
          replace h3:j < lo + n:=h3
          exact hC.t (hall j (by omega) h3).1 (hall i h1 (by omega)).2
        have hK:Kept lo a (mirror a lo (lo + n) ((lo + n - lo) / 2)):=Kept.mir (by omega) (Nat.le_refl _)
        refine wpS_bind (revO_ok ?_)
        obtain ⟨b,hb,hKb,hsb⟩:∃ b,b=mirror a lo (lo + n) ((lo + n - lo) / 2)∧Kept lo a b∧SegD L b lo (lo + (n + 1)):=⟨_,rfl,hK,hsd.eqv hC (mir_eqv hC (by omega) hall)⟩
        rw[←hb]
        have hbs:=Kept.sz hKb
        refine wpS_bind (wpS_lift (wpAny_rule ⟨rfl,?_⟩))
        refine wpS_bind (descO_ok hC hP hk (Kept.d hKb hd) (by omega) (by omega) (by omega) hsb fun c m nq hK hm1 hm2 hs' hq he=>?_)
        have hcs:=hK.sz
        have hdc:=hK.d (Kept.d hKb hd)
        dsimp only
        by_cases hq0:nq > 0
        · rw[if_pos hq0]
          have hK2:Kept lo c (mirror c (lo + m - (nq + 1)) (lo + m) ((lo + m - (lo + m - (nq + 1))) / 2)):=Kept.mir (by omega) (by omega)
          refine wpS_bind (revO_ok ?_)
          refine Eq.mp ?_ (tailO_ok (Q:=Q) hC hP hk (hK2.d hdc) (by rw[hK2.sz];omega) (by omega) hm2 (hs'.eqv hC (mir_eqv hC (by omega) he)) fun d k hc=>h d k (Kept.tr hKb (hK.tr (hK2.tr hc))))
          refine congrArg (fun m=>wpS _ _ _ _ m _ _) ?_
          unfold tailO ascO
          refine congrArg _ (funext fun _=>congrArg _ (funext fun c=>?_))
          obtain ⟨r3,n3⟩:=c
          cases r3 <;> rfl
        · rw[if_neg hq0]
          refine Eq.mp ?_ (tailO_ok (Q:=Q) hC hP hk hdc (by omega) (by omega) hm2 hs' fun d k hc=>h d k (Kept.tr hKb (hK.tr hc)))
          refine congrArg (fun m=>wpS _ _ _ _ m _ _) ?_
          unfold tailO ascO
          refine congrArg _ (funext fun _=>congrArg _ (funext fun c=>?_))
          obtain ⟨r3,n3⟩:=c
          cases r3 <;> rfl
    · rw[if_neg hgt]
      obtain ⟨b,hb,hKb,hsb⟩:∃ b,b=a∧Kept lo a b∧SegD L b lo (lo + (n + 1)):=⟨_,rfl,Kept.rf _ _,SegD.more hC (fun i j h1 h2 h3=>by
        replace h3:j < lo + n:=h3
        rw[show i=j by omega];exact hC.rf _) fun _=>hC.le hlt⟩
      rw[←hb]
      have hbs:=Kept.sz hKb
      refine wpS_bind (wpS_lift (wpAny_rule ⟨rfl,?_⟩))
      refine wpS_bind (descO_ok hC hP hk (Kept.d hKb hd) (by omega) (by omega) (by omega) hsb fun c m nq hK hm1 hm2 hs' hq he=>?_)
      have hcs:=hK.sz
      have hdc:=hK.d (Kept.d hKb hd)
      dsimp only
      by_cases hq0:nq > 0
      · rw[if_pos hq0]
        have hK2:Kept lo c (mirror c (lo + m - (nq + 1)) (lo + m) ((lo + m - (lo + m - (nq + 1))) / 2)):=Kept.mir (by omega) (by omega)
        refine wpS_bind (revO_ok ?_)
        refine Eq.mp ?_ (tailO_ok (Q:=Q) hC hP hk (hK2.d hdc) (by rw[hK2.sz];omega) (by omega) hm2 (hs'.eqv hC (mir_eqv hC (by omega) he)) fun d k hc=>h d k (Kept.tr hKb (hK.tr (hK2.tr hc))))
        refine congrArg (fun m=>wpS _ _ _ _ m _ _) ?_
        unfold tailO ascO
        refine congrArg _ (funext fun _=>congrArg _ (funext fun c=>?_))
        obtain ⟨r3,n3⟩:=c
        cases r3 <;> rfl
      · rw[if_neg hq0]
        refine Eq.mp ?_ (tailO_ok (Q:=Q) hC hP hk hdc (by omega) (by omega) hm2 hs' fun d k hc=>h d k (Kept.tr hKb (hK.tr hc)))
        refine congrArg (fun m=>wpS _ _ _ _ m _ _) ?_
        unfold tailO ascO
        refine congrArg _ (funext fun _=>congrArg _ (funext fun c=>?_))
        obtain ⟨r3,n3⟩:=c
        cases r3 <;> rfl
end
end L2
set_option Elab.async false
set_option linter.all false
set_option maxRecDepth 100000
namespace L2
open PySem PySem.Spec PyProof.Rows
def Pd (L:Keyed→Keyed→Bool):Nat→List (Nat×Nat×Nat)→List (List Keyed)→Prop
  | _,[],[]=>True
  | o,t :: ps,r :: rs=>t.1=o∧t.2.1=r.length∧r≠[]∧r.Pairwise (Le L)∧Pd L (o + r.length) ps rs
  | _,_,_=>False
section
variable {M:Model} {A:Around} {E:Value→Shared→Prop} {s:Shared} {D:Keyed→Prop} {L:Keyed→Keyed→Bool} {kd:SortKind} {st:SortSt}
theorem Pd.len:∀ {ps:List (Nat×Nat×Nat)} {rs:List (List Keyed)} {o:Nat},Pd L o ps rs→ps.length=rs.length
  | [],[],_,_=>rfl
  | t :: ps,r :: rs,o,h=>by have:=Pd.len h.2.2.2.2;simp [this]
  | [],_ :: _,_,h=>h.elim
  | _ :: _,[],_,h=>h.elim
theorem Pd.le:∀ {ps:List (Nat×Nat×Nat)} {rs:List (List Keyed)} {o:Nat},Pd L o ps rs→ps.length≤rs.flatten.length
  | [],[],_,_=>by simp
  | t :: ps,r :: rs,o,h=>by
    have h1:=Pd.le h.2.2.2.2
    have h2:=List.length_pos_iff.mpr h.2.2.1
    rw[List.flatten_cons,List.length_append,List.length_cons];omega
  | [],_ :: _,_,h=>h.elim
  | _ :: _,[],_,h=>h.elim
theorem Pd.app:∀ {ps:List (Nat×Nat×Nat)} {rs:List (List Keyed)} {o:Nat} {t:Nat×Nat×Nat} {r:List Keyed},Pd L o ps rs→t.1=o + rs.flatten.length→t.2.1=r.length→r≠[]→r.Pairwise (Le L)→Pd L o (ps++[t]) (rs++[r])
  | [],[],o,t,r,_,h1,h2,h3,h4=>⟨by simpa using h1,h2,h3,h4,trivial⟩
  | t :: ps,r :: rs,o,t',r',h,h1,h2,h3,h4=>⟨h.1,h.2.1,h.2.2.1,h.2.2.2.1,Pd.app h.2.2.2.2 (by rw[h1,List.flatten_cons,List.length_append];omega) h2 h3 h4⟩
  | [],_ :: _,_,_,_,h,_,_,_,_=>h.elim
  | _ :: _,[],_,_,_,h,_,_,_,_=>h.elim
theorem Pd.pow:∀ {ps qs:List (Nat×Nat×Nat)} {rs:List (List Keyed)} {o:Nat},Pd L o ps rs→ps.map (fun t=>(t.1,t.2.1))=qs.map (fun t=>(t.1,t.2.1))→Pd L o qs rs
  | [],qs,[],_,_,e=>by
    have:qs=[]:=by simpa using e.symm
    subst this;trivial
  | t :: ps,qs,r :: rs,o,h,e=>by
    cases qs with
    | nil=>simp at e
    | cons u qs=>
      simp only[List.map_cons,List.cons.injEq,Prod.mk.injEq] at e
      exact ⟨e.1.1▸h.1,e.1.2▸h.2.1,h.2.2.1,h.2.2.2.1,Pd.pow h.2.2.2.2 e.2⟩
  | [],_,_ :: _,_,h,_=>h.elim
  | _ :: _,_,[],_,h,_=>h.elim
theorem Pd.pick:∀ {ps:List (Nat×Nat×Nat)} {rs:List (List Keyed)} {o i:Nat},Pd L o ps rs→i + 1 < ps.length →
    ∃ ra X Y rb pw pw2,rs=ra++X :: Y :: rb∧ps[i]?=some (o + ra.flatten.length,X.length,pw)∧ps[i + 1]?=some (o + ra.flatten.length + X.length,Y.length,pw2)∧X≠[]∧Y≠[]∧X.Pairwise (Le L)∧Y.Pairwise (Le L) ∧
      ∀ V:List Keyed,V.length=X.length + Y.length→V.Pairwise (Le L)→Pd L o ((ps.set i (o + ra.flatten.length,X.length + Y.length,pw)).eraseIdx (i + 1)) (ra++V :: rb)
  | t :: u :: ps,r :: r2 :: rs,o,0,h,_=>by
    obtain ⟨a1,a2,a3,a4,b1,b2,b3,b4,b5⟩:=h
    obtain ⟨t1,t2,t3⟩:=t
    obtain ⟨u1,u2,u3⟩:=u
    dsimp only at a1 a2 b1 b2
    subst a1 a2 b1 b2
    refine ⟨[],r,r2,rs,t3,u3,rfl,by simp,by simp,a3,b3,a4,b4,fun V hV hs=>?_⟩
    refine ⟨by simp,by simpa using hV.symm,?_,hs,?_⟩
    · intro e;rw[e] at hV;have:=List.length_pos_iff.mpr a3;simp at hV;omega
    · rw[hV,←Nat.add_assoc];exact b5
  | t :: ps,r :: rs,o,i + 1,h,hi=>by
    obtain ⟨a1,a2,a3,a4,a5⟩:=h
    obtain ⟨ra,X,Y,rb,pw,pw2,h1,h2,h3,h4,h5,h6,h7,h8⟩:=Pd.pick a5 (i:=i) (by simpa using hi)
    refine ⟨r :: ra,X,Y,rb,pw,pw2,by rw[h1];rfl,?_,?_,h4,h5,h6,h7,fun V hV hs=>?_⟩
    · rw[List.getElem?_cons_succ,h2,List.flatten_cons,List.length_append,Nat.add_assoc]
    · rw[List.getElem?_cons_succ,h3,List.flatten_cons,List.length_append,Nat.add_assoc o]
    · have:=h8 V hV hs
      rw[List.set_cons_succ,List.eraseIdx_cons_succ,List.flatten_cons,List.length_append,←Nat.add_assoc]
      exact ⟨a1,a2,a3,a4,this⟩
  | [_],[_],_,0,_,h=>by simp at h
  | [],_,_,_,_,h=>by simp at h
  | _ :: _,[],_,_,h,_=>h.elim
  | _ :: _ :: _,[_],_,0,h,_=>h.2.2.2.2.elim
  | [_],_ :: _ :: _,_,0,h,_=>h.2.2.2.2.elim
structure SI (L:Keyed→Keyed→Bool) (kd:SortKind) (a0:List Keyed) (n:Nat) (Z:List Keyed) (st:SortSt):Prop where
  kind:kindOf st=kd
  fail:failedOf st=none
  perm:(arrOf st).toList.Perm a0
  runs:∃ rs:List (List Keyed),(arrOf st).toList=rs.flatten++Z∧rs.flatten.length=n∧Pd L 0 (pendingOf st).toList rs
theorem SI.merge {a0 Z:List Keyed} {n i:Nat} {Q:Bool→SortSt→Prop} (hC:CmpT L) (hP:PureC M A E s D L kd) (hd:∀ u∈a0,D u) (h:SI L kd a0 n Z st) (hi:i + 1 < (pendingOf st).size)
    (q:∀ st',SI L kd a0 n Z st'→(pendingOf st').size + 1=(pendingOf st).size→Q true st'):wpS M A E s (mergeAt' i) Q st:=by
  obtain ⟨h1,h2,h3,rs,h4,h5,h6⟩:=h
  obtain ⟨ra,X,Y,rb,pw,pw2,rfl,p1,p2,p3,p4,p5,p6,p7⟩:=h6.pick (i:=i) (by simpa using hi)
  rw[Nat.zero_add] at p1 p2
  have ha:(arrOf st).toList=ra.flatten++X++Y++(rb.flatten++Z):=by rw[h4];simp
  refine mAt_ok hC.to hP h1 h2 ha (fun u hu=>hd u (h3.mem_iff.mp hu)) p3 p4 p5 p6 (by rw[←Array.getElem?_toList];exact p1) (by rw[←Array.getElem?_toList];exact p2) fun V a g hV hp hs=>?_
  have hl:=hp.length_eq
  rw[List.length_append] at hl
  refine q _ ⟨rfl,rfl,?_,ra++V :: rb,?_,?_,?_⟩ ?_
  · show a.toList.Perm a0
    refine List.Perm.trans ?_ h3
    rw[hV,ha]
    have:=(List.Perm.append_left ra.flatten hp).append_right (rb.flatten++Z)
    simpa using this
  · show a.toList=_
    rw[hV];simp
  · rw[←h5];simp [hl];omega
  · show Pd L 0 (Array.eraseIdxIfInBounds _ _).toList _
    have:=p7 V hl hs
    rw[Nat.zero_add] at this
    rw[Array.toList_eraseIdxIfInBounds,Array.toList_setIfInBounds]
    exact this
  · show (Array.eraseIdxIfInBounds _ _).size + 1=_
    rw[←Array.length_toList,Array.toList_eraseIdxIfInBounds,Array.toList_setIfInBounds,List.length_eraseIdx_of_lt (by simpa using hi),List.length_set,Array.length_toList]
    omega
end
end L2
set_option Elab.async false
set_option linter.all false
set_option maxRecDepth 100000
namespace L2
open PySem PySem.Spec PyProof.Rows
theorem Kept.pref {lo:Nat} {a b:Array Keyed} {F Z:List Keyed} (h:Kept lo a b) (ha:a.toList=F++Z) (hF:F.length=lo):b.toList=F++b.toList.drop lo:=by
  have e:b.toList.take lo=F:=by
    refine List.ext_getElem? fun i=>?_
    rw[List.getElem?_take]
    by_cases hi:i < lo
    · rw[if_pos hi,Array.getElem?_toList,h.pre i hi,←Array.getElem?_toList,ha,List.getElem?_append_left (by omega)]
    · rw[if_neg hi,List.getElem?_eq_none (by omega)]
  conv=>lhs;rw[←List.take_append_drop lo b.toList,e]
theorem SegU.pw {L:Keyed→Keyed→Bool} {b:Array Keyed} {lo m:Nat} (h:SegU L b lo (lo + m)):((b.toList.drop lo).take m).Pairwise (Le L):=by
  rw[List.pairwise_iff_getElem]
  intro i j hi hj hij
  rw[List.length_take,List.length_drop,Array.length_toList] at hi hj
  have e:∀ k (hk:k < ((b.toList.drop lo).take m).length),at0 b (lo + k)=((b.toList.drop lo).take m)[k]:=by
    intro k hk
    rw[List.length_take,List.length_drop,Array.length_toList] at hk
    unfold at0
    rw[getElem?_pos b (lo + k) (by omega)]
    simp
  rw[←e i (by simp;omega),←e j (by simp;omega)]
  exact h _ _ (by omega) (by omega) (by omega)
section
variable {M:Model} {A:Around} {E:Value→Shared→Prop} {s:Shared} {D:Keyed→Prop} {L:Keyed→Keyed→Bool} {kd:SortKind} {st:SortSt}
theorem SI.push {a0 R Z:List Keyed} {lo n p:Nat} (h:SI L kd a0 lo (R++Z) st) (h1:R.length=n) (h2:R≠[]) (h3:R.Pairwise (Le L)):SI L kd a0 (lo + n) Z (setPending st ((pendingOf st).push (lo,n,p))):=by
  obtain ⟨a1,a2,a3,rs,a4,a5,a6⟩:=h
  refine ⟨a1,a2,a3,rs++[R],?_,?_,?_⟩
  · show (arrOf st).toList=_
    rw[a4];simp
  · simp [a5,h1]
  · show Pd L 0 ((pendingOf st).push (lo,n,p)).toList _
    rw[Array.toList_push]
    exact a6.app (by simp [a5]) h1.symm h2 h3
theorem modify_map {α β:Type} (g:α→β) (f:α→α) (h:∀ x,g (f x)=g x) (l:List α) (k:Nat):(l.modify k f).map g=l.map g:=by
  refine List.ext_getElem? fun i=>?_
  rw[List.getElem?_map,List.getElem?_map,List.getElem?_modify]
  cases l[i]? with
  | none=>rfl
  | some x=>by_cases e:k=i <;> simp [e,h]
theorem SI.pow {a0 Z:List Keyed} {lo k w:Nat} (h:SI L kd a0 lo Z st):SI L kd a0 lo Z (setPending st ((pendingOf st).modify k fun x=>(x.1,x.2.1,w))):=by
  obtain ⟨a1,a2,a3,rs,a4,a5,a6⟩:=h
  refine ⟨a1,a2,a3,rs,a4,a5,?_⟩
  show Pd L 0 ((pendingOf st).modify k _).toList _
  rw[Array.toList_modify]
  exact a6.pow (modify_map (fun t=>(t.1,t.2.1)) (fun x=>(x.1,x.2.1,w)) (fun _=>rfl) _ _).symm
theorem runs_ok {a0:List Keyed} {Q:Unit→SortSt→Prop} (hC:CmpT L) (hP:PureC M A E s D L kd) (hd:∀ u∈a0,D u) (hk:kindOf st=kd) (hf:failedOf st=none) (hpe:pendingOf st=#[]) (ha:(arrOf st).toList=a0)
    (q:∀ st',(arrOf st').toList.Perm a0→(arrOf st').toList.Pairwise (Le L)→failedOf st'=none→Q () st'):wpS M A E s sortRuns' Q st:=by
  rw[sortRuns'_eq]
  refine wpS_bind (wpS_get ?_)
  dsimp only
  obtain ⟨N,hN⟩:∃ N,N=(arrOf st).size:=⟨_,rfl⟩
  have hN':a0.length=N:=by rw[hN,←ha,Array.length_toList]
  rw[←hN]
  have hSI:SI L kd a0 0 a0 st:=⟨hk,hf,by rw[ha],[],by simpa using ha,rfl,by rw[hpe];trivial⟩
  refine wpS_bind (wpS_mono (wpS_forRange (a:=0) (b:=N) (I:=fun x c st'=>∃ lo Z,c=(none,lo)∧SI L kd a0 lo Z st'∧x≤lo∧lo≤N)
    (Q:=fun c st'=>∃ Z,c=(none,N)∧SI L kd a0 N Z st') ?step ?fin ⟨0,a0,rfl,hSI,by omega,by omega⟩) ?post)
  case fin=>
    rintro c st' ⟨lo,Z,rfl,hS,hx,hl⟩
    have:lo=N:=by omega
    subst this
    exact ⟨Z,rfl,hS⟩
  case post=>
    rintro c st' ⟨Z,rfl,hS⟩
    have hZ:∀ st',SI L kd a0 N Z st'→Z=[]:=by
      intro st' hS
      obtain ⟨h1,h2,h3,rs,h4,h5,h6⟩:=hS
      have:=h3.length_eq
      rw[h4,List.length_append,h5,hN'] at this
      exact List.length_eq_zero_iff.mp (by omega)
    dsimp only
    refine wpS_bind (wpS_mono (wpS_forRange (a:=0) (b:=N) (I:=fun x c st'=>c=(none,())∧SI L kd a0 N Z st'∧(pendingOf st').size + x≤N)
      (Q:=fun c st'=>c=(none,())∧SI L kd a0 N Z st'∧(pendingOf st').size≤1) ?s2 ?f2 ⟨rfl,hS,?_⟩) ?p2)
    case f2=>
      rintro c st' ⟨rfl,hS,hx⟩
      exact ⟨rfl,hS,by omega⟩
    case p2=>
      rintro c st' ⟨rfl,hS,hx⟩
      obtain ⟨h1,h2,h3,rs,h4,h5,h6⟩:=hS
      have:=hZ st' ⟨h1,h2,h3,rs,h4,h5,h6⟩
      subst this
      refine wpS_pure (q st' h3 ?_ h2)
      have hl:=h6.len
      rw[Array.length_toList] at hl
      rw[h4,List.append_nil]
      cases rs with
      | nil=>exact List.Pairwise.nil
      | cons r rs=>
        cases rs with
        | nil=>
          cases hps:(pendingOf st').toList with
          | nil=>rw[hps] at h6;exact h6.elim
          | cons t ps=>rw[hps] at h6;simpa using h6.2.2.2.1
        | cons r2 rs=>simp at hl;omega
    case s2=>
      rintro x c st' _ hx ⟨rfl,hS,hpx⟩
      refine wpS_bind (wpS_get ?_)
      by_cases hp1:(pendingOf st').size≤1
      · rw[if_pos hp1]
        exact wpS_pure ⟨rfl,hS,hp1⟩
      · rw[if_neg hp1]
        refine wpS_bind (hS.merge hC hP hd ?_ fun st2 hS2 hp2=>?_)
        · have hle:∀ (c:Prop) [Decidable c] (k:Nat),(if c then k - 1 else k)≤k:=fun c _ k=>by split <;> omega
          exact Nat.lt_of_le_of_lt (Nat.succ_le_succ (hle _ _)) (by omega)
        · exact wpS_pure ⟨rfl,hS2,by omega⟩
    · obtain ⟨h1,h2,h3,rs,h4,h5,h6⟩:=hS
      have:=h6.le
      rw[Array.length_toList] at this
      omega
  case step=>
    rintro x c st' _ hx ⟨lo,Z,rfl,hS,hxl,hl⟩
    dsimp only
    by_cases hlo:lo≥N
    · rw[if_pos hlo]
      have:lo=N:=by omega
      subst this
      exact wpS_pure ⟨Z,rfl,hS⟩
    rw[if_neg hlo]
    obtain ⟨h1,h2,h3,rs,h4,h5,h6⟩:=hS
    have hsz:(arrOf st').size=N:=by rw[←Array.length_toList,h3.length_eq,hN']
    have hda:∀ u∈(arrOf st').toList,D u:=fun u hu=>hd u (h3.mem_iff.mp hu)
    refine wpS_bind (Eq.mp (congrArg (fun v=>wpS M A E s (countRun' lo (N - lo)) _ v) (show setArr st' (arrOf st')=st' from rfl)) (cntO_ok hC hP h1 hda (by omega) (by omega) fun b m hK hm1 hm2 hsm=>?_))
    dsimp only
    have hbz:=hK.sz
    by_cases hmr:m < minRun' N N 0
    · rw[if_pos hmr]
      obtain ⟨n,hn⟩:∃ n,n=min (N - lo) (minRun' N N 0):=⟨_,rfl⟩
      rw[←hn]
      refine wpS_bind (wpS_lift (wpAny_rule ⟨rfl,?_⟩))
      refine wpS_bind (binO_ok hC hP h1 (hK.d hda) (by omega) (by omega) hsm fun b2 hK2 hs2=>?_)
      rw[if_neg (by simp)]
      have hKb:=hK.tr hK2
      have hn1:1≤n:=by omega
      have hn2:n≤N - lo:=by omega
      have hbz2:=Kept.sz hKb
      have hb1:=Kept.pref hKb h4 h5
      obtain ⟨R,hR⟩:∃ R,R=(List.drop lo (Array.toList b2)).take n:=⟨_,rfl⟩
      obtain ⟨Z2,hZ2⟩:∃ Z2,Z2=(List.drop lo (Array.toList b2)).drop n:=⟨_,rfl⟩
      have hRZ:(List.drop lo (Array.toList b2))=R++Z2:=by rw[hR,hZ2,List.take_append_drop]
      have hRl:R.length=n:=by rw[hR,List.length_take,List.length_drop,Array.length_toList];omega
      have hRn:R≠[]:=by intro e;rw[e] at hRl;simp at hRl;omega
      have hRs:R.Pairwise (Le L):=by rw[hR];exact SegU.pw hs2
      have hS:SI L kd a0 lo (R++Z2) (setArr st' b2):=⟨h1,h2,(Array.perm_iff_toList_perm.mp (Kept.perm hKb)).trans h3,rs,by rw[←hRZ];exact hb1,h5,h6⟩
      refine wpS_bind (wpS_get ?_)
      cases hb:(pendingOf (setArr st' b2)).back? with
      | none=>
        dsimp only
        exact wpS_bind (wpS_modify (wpS_pure ⟨lo + n,Z2,rfl,hS.push hRl hRn hRs,by omega,by omega⟩))
      | some t=>
        obtain ⟨s1,n1,p1⟩:=t
        dsimp only
        refine wpS_bind (wpS_mono (wpS_forRange (a:=0) (b:=N) (I:=fun y c st2=>c=(none,())∧SI L kd a0 lo (R++Z2) st2) (Q:=fun c st2=>c=(none,())∧SI L kd a0 lo (R++Z2) st2) ?_ (fun _ _ h=>h) ⟨rfl,hS⟩) ?_)
        · rintro y c st2 _ _ ⟨hc,hS2⟩
          subst hc
          refine wpS_bind (wpS_get ?_)
          by_cases hp:(pendingOf st2).size > 1
          · rw[if_pos hp]
            obtain ⟨t,ht⟩:∃ t,(pendingOf st2)[(pendingOf st2).size - 2]?=some t:=⟨_,getElem?_pos _ _ (by omega)⟩
            obtain ⟨t1,t2,t3⟩:=t
            rw[ht]
            dsimp only
            split
            · exact wpS_pure ⟨rfl,hS2⟩
            · exact wpS_bind (hS2.merge hC hP hd (by omega) fun st3 hS3 _=>wpS_pure ⟨rfl,hS3⟩)
          · rw[if_neg hp]
            exact wpS_pure ⟨rfl,hS2⟩
        · rintro c st2 ⟨hc,hS2⟩
          subst hc
          exact wpS_bind (wpS_modify (wpS_bind (wpS_modify (wpS_pure ⟨lo + n,Z2,rfl,hS2.pow.push hRl hRn hRs,by omega,by omega⟩))))
    · rw[if_neg hmr]
      have hKb:=hK
      have hbz2:=Kept.sz hKb
      have hb1:=Kept.pref hKb h4 h5
      obtain ⟨R,hR⟩:∃ R,R=(List.drop lo (Array.toList b)).take m:=⟨_,rfl⟩
      obtain ⟨Z2,hZ2⟩:∃ Z2,Z2=(List.drop lo (Array.toList b)).drop m:=⟨_,rfl⟩
      have hRZ:(List.drop lo (Array.toList b))=R++Z2:=by rw[hR,hZ2,List.take_append_drop]
      have hRl:R.length=m:=by rw[hR,List.length_take,List.length_drop,Array.length_toList];omega
      have hRn:R≠[]:=by intro e;rw[e] at hRl;simp at hRl;omega
      have hRs:R.Pairwise (Le L):=by rw[hR];exact SegU.pw hsm
      have hS:SI L kd a0 lo (R++Z2) (setArr st' b):=⟨h1,h2,(Array.perm_iff_toList_perm.mp (Kept.perm hKb)).trans h3,rs,by rw[←hRZ];exact hb1,h5,h6⟩
      refine wpS_bind (wpS_get ?_)
      cases hb:(pendingOf (setArr st' b)).back? with
      | none=>
        dsimp only
        exact wpS_bind (wpS_modify (wpS_pure ⟨lo + m,Z2,rfl,hS.push hRl hRn hRs,by omega,by omega⟩))
      | some t=>
        obtain ⟨s1,n1,p1⟩:=t
        dsimp only
        refine wpS_bind (wpS_mono (wpS_forRange (a:=0) (b:=N) (I:=fun y c st2=>c=(none,())∧SI L kd a0 lo (R++Z2) st2) (Q:=fun c st2=>c=(none,())∧SI L kd a0 lo (R++Z2) st2) ?_ (fun _ _ h=>h) ⟨rfl,hS⟩) ?_)
        · rintro y c st2 _ _ ⟨hc,hS2⟩
          subst hc
          refine wpS_bind (wpS_get ?_)
          by_cases hp:(pendingOf st2).size > 1
          · rw[if_pos hp]
            obtain ⟨t,ht⟩:∃ t,(pendingOf st2)[(pendingOf st2).size - 2]?=some t:=⟨_,getElem?_pos _ _ (by omega)⟩
            obtain ⟨t1,t2,t3⟩:=t
            rw[ht]
            dsimp only
            split
            · exact wpS_pure ⟨rfl,hS2⟩
            · exact wpS_bind (hS2.merge hC hP hd (by omega) fun st3 hS3 _=>wpS_pure ⟨rfl,hS3⟩)
          · rw[if_neg hp]
            exact wpS_pure ⟨rfl,hS2⟩
        · rintro c st2 ⟨hc,hS2⟩
          subst hc
          exact wpS_bind (wpS_modify (wpS_bind (wpS_modify (wpS_pure ⟨lo + m,Z2,rfl,hS2.pow.push hRl hRn hRs,by omega,by omega⟩))))
end
end L2
set_option Elab.async false
set_option linter.all false
set_option maxRecDepth 100000
namespace L2
open PySem PySem.Spec PyProof.Rows
section
variable {prog:Program} {w:World} {A:Around} {E:Value→Shared→Prop} {s:Shared} {κ:KeyKind}
end
end L2
set_option Elab.async false
set_option linter.all false
set_option maxRecDepth 100000
namespace L2
open PySem PySem.Spec PyProof.Rows
section
variable {prog:Program} {w:World} {A:Around} {E:Value→Shared→Prop} {s:Shared} {κ:KeyKind}
end
end L2
set_option Elab.async false
set_option linter.all false
set_option maxRecDepth 100000
namespace L2
open PySem PySem.Spec PyProof.Rows
section
variable {prog:Program} {w:World} {A:Around} {E:Value→Shared→Prop} {s:Shared}
end
section
variable {X:Cx} {e:Expr} {ta:TA} {p p2 pos kpos:Pos}
end
end L2
set_option Elab.async false
set_option linter.all false
set_option maxRecDepth 100000
namespace L2
open PySem PySem.Spec PyProof.Rows
theorem keyLt_tuples (b:Bool) (x y:Value):keyLt' (tuples' b) x y=(do
    let xs ←Builtin.List.listItems x
    let ys ←Builtin.List.listItems y
    for ((p,r),i) in (xs.toList.zip ys.toList).zipIdx do
      if !(←eqBool p r) then return ←oneLt' (b&&i == 0) p r
    return xs.size < ys.size):=rfl
def keyT (h:Heap):Value→Int×List Nat
  | .ref a=>match h.get? a with
    | some o=>match o.data with
      | .seq xs _=>match xs.toList with
        | [.int n _,.str w _]=>(n,w.cps.toList)
        | _=>(0,[])
      | _=>(0,[])
    | none=>(0,[])
  | _=>(0,[])
def ltP (a b:Int×List Nat):Bool:=decide (a.1 < b.1) || (a.1 == b.1&&decide (a.2 < b.2))
def ltT (h:Heap) (x y:Keyed):Bool:=ltP (keyT h x.1) (keyT h y.1)
theorem ltP_iff {a b:Int×List Nat}:ltP a b=true↔a.1 < b.1∨(a.1=b.1∧a.2 < b.2):=by
  unfold ltP;simp
theorem ltP_not {a b:Int×List Nat}:ltP b a=false↔a.1 < b.1∨(a.1=b.1∧¬ b.2 < a.2):=by
  rw[←Bool.not_eq_true,ltP_iff]
  constructor
  · intro h
    by_cases e:a.1=b.1
    · exact .inr ⟨e,fun k=>h (.inr ⟨e.symm,k⟩)⟩
    · exact .inl (by
        have:¬ b.1 < a.1:=fun k=>h (.inl k)
        omega)
  · rintro (h | ⟨h,k⟩) (l | ⟨l,m⟩)
    · omega
    · omega
    · omega
    · exact k m
theorem ltT_cmp (h:Heap):CmpT (ltT h):=by
  refine ⟨fun x y _ _ e=>?_,fun x y z _ _ _ e f=>?_⟩
  · unfold ltT at e ⊢
    rw[ltP_iff] at e
    rw[ltP_not]
    rcases e with e | ⟨e,f⟩
    · exact .inl e
    · exact .inr ⟨e,List.lt_asymm f⟩
  · unfold ltT at e f ⊢
    rw[ltP_not] at e f ⊢
    rcases e with e | ⟨e,e2⟩ <;> rcases f with f | ⟨f,f2⟩
    · exact .inl (by omega)
    · exact .inl (by omega)
    · exact .inl (by omega)
    · exact .inr ⟨by omega,List.not_lt.mpr (List.le_trans (List.not_lt.mp e2) (List.not_lt.mp f2))⟩
def IsT (h:Heap) (v:Value) (n:Int) (c:List Nat):Prop:=∃ a t w u e,v=.ref a∧h.get? a=some (seqObj "tuple" #[.int n t,.str w u] e)∧w.cps.toList=c
theorem IsT.key {h:Heap} {v:Value} {n:Int} {c:List Nat} (k:IsT h v n c):keyT h v=(n,c):=by
  obtain ⟨a,t,w,u,e,rfl,ho,rfl⟩:=k
  unfold keyT;dsimp only;rw[ho]
section
variable {prog:Program} {w:World} {A:Around} {E:Value→Shared→Prop} {s:Shared}
theorem oneLt_str2 {a b:Str} {t u:Tok} {Q:Bool→Shared→Prop} (h:Q (decide (a.cps.toList < b.cps.toList)) s):wpAny (model prog w) A (oneLt' false (.str a t) (.str b u)) Q E s:=by
  rw[oneLt'_eq]
  simp only[Bool.false_eq_true,if_false]
  refine wpAny_bind (wpAny_richCompare_same (typeIs_str s a t) (typeIs_str s b u) slot_str_lt (call_str_lt ⟨(fun z=>nomatch z),?_⟩))
  exact wpAny_truthy_bool h
theorem ltT_pure:PureC (model prog w) A E s (fun p=>∃ n c,IsT s.heap p.1 n c) (ltT s.heap) (tuples' true):=by
  rintro st ⟨x,p⟩ ⟨y,r⟩ Q hk ⟨n,c,hx⟩ ⟨m,d,hy⟩ q
  have e:ltT s.heap (x,p) (y,r)=ltP (n,c) (m,d):=by unfold ltT;rw[hx.key,hy.key]
  rw[e] at q
  obtain ⟨a,t,v,u,ep,rfl,ho,rfl⟩:=hx
  obtain ⟨b,t2,v2,u2,ep2,rfl,ho2,rfl⟩:=hy
  rw[lt'_eq]
  refine wpS_bind (wpS_get ?_)
  rw[hk,keyLt_tuples]
  refine wpS_bind (wpS_lift (wpAny_attempt (wpAny_bind (listItems_at ho rfl (wpAny_bind (listItems_at ho2 rfl ?_))))))
  show wpAny _ _ (forIn [((Value.int n t,Value.int m t2),0),((Value.str v u,Value.str v2 u2),1)] _ _ >>= _) _ _ _
  rw[List.forIn_cons]
  refine wpAny_bind (wpAny_bind (wpAny_bind (wpAny_eqBool_int ?_)))
  by_cases hnm:n=m
  · subst hnm
    rw[if_neg (by simp)]
    refine wpAny_pure ?_
    dsimp only
    rw[List.forIn_cons]
    refine wpAny_bind (wpAny_bind (eqBool_str ?_))
    by_cases hv:v=v2
    · subst hv
      rw[if_neg (by simp)]
      refine wpAny_pure ?_
      dsimp only
      rw[List.forIn_nil]
      refine wpAny_pure ?_
      dsimp only
      refine wpAny_pure ⟨rfl,wpS_pure ?_⟩
      have:ltP (n,v.cps.toList) (n,v.cps.toList)=false:=by unfold ltP;simp [List.lt_irrefl]
      rw[this] at q
      simpa using q
    · rw[if_pos (by simpa using hv)]
      refine wpAny_bind (oneLt_str2 (wpAny_pure (wpAny_pure ?_)))
      dsimp only
      refine wpAny_pure ⟨rfl,wpS_pure ?_⟩
      have:ltP (n,v.cps.toList) (n,v2.cps.toList)=decide (v.cps.toList < v2.cps.toList):=by unfold ltP;simp
      rw[this] at q
      exact q
  · rw[if_pos (by simpa using hnm)]
    refine wpAny_bind (oneLt_int (wpAny_pure (wpAny_pure ?_)))
    dsimp only
    refine wpAny_pure ⟨rfl,wpS_pure ?_⟩
    have:ltP (n,v.cps.toList) (m,v2.cps.toList)=decide (n < m):=by unfold ltP;simp [hnm]
    rw[this] at q
    exact q
end
end L2
set_option Elab.async false
set_option linter.all false
set_option maxRecDepth 100000
namespace L2
open PySem PySem.Spec PyProof.Rows
structure Lin {α:Type} (lt:α→α→Bool):Prop where
  asym:∀ a b,lt a b=true→lt b a=false
  trans:∀ a b c,lt a b=true→lt b c=true→lt a c=true
  tri:∀ a b,lt a b=false→lt b a=false→a=b
theorem Lin.neg {α:Type} {lt:α→α→Bool} (L:Lin lt) {a b c:α} (h1:lt b a=false) (h2:lt c b=false):lt c a=false:=by
  cases h:lt c a with
  | false=>rfl
  | true=>
    cases h3:lt a b with
    | false=>rw[L.tri a b h3 h1] at h;rw[h] at h2;cases h2
    | true=>rw[L.trans c a b h h3] at h2;cases h2
abbrev KQ:=Int×List Nat×Int×Int
def keyQ (h:Heap):Value→KQ
  | .ref a=>match h.get? a with
    | some o=>match o.data with
      | .seq xs _=>match xs.toList with
        | [.int n _,.str w _,.int i _,.int j _]=>(n,w.cps.toList,i,j)
        | _=>(0,[],0,0)
      | _=>(0,[],0,0)
    | none=>(0,[],0,0)
  | _=>(0,[],0,0)
def IsQ (h:Heap) (v:Value) (k:KQ):Prop:=∃ a o t w u t3 t4 e,v=.ref a∧h.get? a=some o∧o.cls=.type "tuple"∧o.data=.seq #[.int k.1 t,.str w u,.int k.2.2.1 t3,.int k.2.2.2 t4] e∧w.cps.toList=k.2.1
theorem IsQ.key {h:Heap} {v:Value} {k:KQ} (q:IsQ h v k):keyQ h v=k:=by
  obtain ⟨a,o,t,w,u,t3,t4,e,rfl,ho,_,hd,hw⟩:=q
  unfold keyQ;dsimp only;rw[ho];dsimp only;rw[hd]
  obtain ⟨n,c,i,j⟩:=k
  dsimp only at hw ⊢
  rw[←hw]
section
variable {prog:Program} {w:World} {A:Around} {E:Value→Shared→Prop} {s:Shared}
end
end L2
set_option Elab.async false
set_option linter.all false
set_option maxRecDepth 100000
namespace L2
open PySem PySem.Spec PyProof.Rows
section
variable {prog:Program} {w:World} {A:Around} {E:Value→Shared→Prop} {s:Shared}
theorem mapM_first_tup:∀ {vs:List Value} {Q:List (Option Value)→Shared→Prop},(∀ v∈vs,∃ n c,IsT s.heap v n c) →
    (∀ us:List Value,us.length=vs.length→(∀ u∈us,∃ n t,u=.int n t)→Q (us.map some) s)→wpAny (model prog w) A (vs.mapM firstOfTuple') Q E s
  | [],Q,_,q=>by rw[List.mapM_nil];exact wpAny_pure (q [] rfl (by simp))
  | v :: vs,Q,h,q=>by
    obtain ⟨n,c,a,t,x,u,e,rfl,ho,rfl⟩:=h v (by simp)
    rw[List.mapM_cons]
    refine wpAny_bind ?_
    show wpAny _ _ (do
      if (←typeOf (.ref a)) != .type "tuple" then return none
      return (←Builtin.List.listItems (.ref a))[0]?) _ _ _
    refine wpAny_bind (wpAny_typeOf_ref ho ?_)
    rw[if_neg (show ¬ ((Value.type "tuple" != Value.type "tuple")=true) by decide)]
    refine wpAny_bind (listItems_at ho rfl (wpAny_pure ?_))
    refine wpAny_bind (mapM_first_tup (fun v hv=>h v (by simp [hv])) fun us hl hu=>wpAny_pure ?_)
    refine q (.int n t :: us) (by simp [hl]) fun u hu'=>?_
    rcases List.mem_cons.mp hu' with rfl | hu'
    · exact ⟨n,t,rfl⟩
    · exact hu u hu'
theorem keyKind_tup {vs:List Value} {Q:SortKind→Shared→Prop} (hv:∀ v∈vs,∃ n c,IsT s.heap v n c) (hne:vs≠[]) (q:Q (tuples' true) s):wpAny (model prog w) A (keyKind' vs.toArray) Q E s:=by
  rw[keyKind'_eq,List.mapM_toArray,map_eq_pure_bind,bind_assoc]
  refine wpAny_bind (mapM_first_tup hv fun us hl hu=>?_)
  rw[pure_bind,if_pos (by simp)]
  refine wpAny_bind (wpAny_rule ?_)
  have hI:IntsAre us (us.map numOf):=intsAre_map us hu
  have e1:((us.map some).toArray.filterMap id)=us.toArray:=by simp
  rw[e1,oneTypeOnly'_eq,List.mapM_toArray,mapM_typeOf_ints hI]
  cases us with
  | nil=>
    cases vs with
    | nil=>exact absurd rfl hne
    | cons v vs=>simp at hl
  | cons u us=>
    simp only[map_pure,pure_bind]
    have h0:(List.map (fun _=>Value.type "int") (u :: us)).toArray[0]?=some (Value.type "int"):=by simp
    have hall:((List.map (fun _=>Value.type "int") (u :: us)).toArray.all fun z=>z == Value.type "int")=true:=by
      rw[List.all_toArray,List.all_map,List.all_eq_true]
      exact fun _ _=>rfl
    rw[h0]
    simp only[hall,if_true,pure_bind]
    exact wpAny_pure q
end
end L2
set_option Elab.async false
set_option linter.all false
set_option maxRecDepth 100000
namespace L2
open PySem PySem.Spec PyProof.Rows
section
variable {prog:Program} {w:World} {A:Around} {E:Value→Shared→Prop} {s:Shared}
end
end L2
set_option Elab.async false
set_option linter.all false
set_option maxRecDepth 100000
namespace L2
open PySem PySem.Spec PyProof.Rows
section
variable {X:Cx}
end
end L2
set_option Elab.async false
set_option linter.all false
set_option maxRecDepth 100000
namespace L2
open PySem PySem.Spec PyProof.Rows
section
variable {X:Cx} {pins:List (Addr×Obj)} {σ:St} {H:Hp} {s:Shared}
end
def Itd (o:Obj) (kvs:List (Key×V)) (a:Addr):It:=
  ⟨fun i H=>H a=some (.frz o (.dK kvs))∧i < kvs.length,fun i H x H'=>H'=H∧∃ p,kvs[i]?=some p∧x=kV p.1,fun i H=>H a=some (.frz o (.dK kvs))∧kvs.length≤i⟩
section
variable {X:Cx} {tg:Expr}
end
section
variable {g:TG} {tb:TS} {D:Ends} {σ:St} {H:Hp} {o:Obj} {kvs:List (Key×V)} {a:Addr}
theorem ForRun.dict (Pv:Nat→St→Hp→Prop) (h0:Pv 0 σ H) (hl:∀ i σ H,Pv i σ H→H a=some (.frz o (.dK kvs)))
    (hs:∀ i p σ H,kvs[i]?=some p→Pv i σ H→g (kV p.1) σ H fun σ2 H2=>tb { D with nx:=Pv (i + 1),ct:=Pv (i + 1),bk:=D.nx } σ2 H2) (hd:∀ σ H,Pv kvs.length σ H→D.nx σ H):ForRun (Itd o kvs a) g tb D σ H:=by
  refine ⟨fun i m σ H=>m=kvs.length - i∧i≤kvs.length∧Pv i σ H,⟨kvs.length,by simp,Nat.zero_le _,h0⟩,?_⟩
  rintro i m σ H ⟨rfl,hi,p⟩
  have q:=hl i σ H p
  by_cases hlt:i < kvs.length
  · refine .inr ⟨⟨q,hlt⟩,Pv (i + 1),fun σ' H' p'=>⟨kvs.length - (i + 1),by omega,rfl,hlt,p'⟩,fun x H' y=>?_⟩
    obtain ⟨e,p2,e2,e3⟩:=y
    subst e e3
    exact hs i p2 σ _ e2 p
  · have e:i=kvs.length:=by omega
    subst e
    exact .inl ⟨⟨q,Nat.le_refl _⟩,hd σ H p⟩
end
end L2
set_option Elab.async false
set_option linter.all false
set_option maxRecDepth 100000
namespace L2
open PySem PySem.Spec PyProof.Rows
section
variable {prog:Program} {w:World} {A:Around} {E:Value→Shared→Prop} {s:Shared}
end
def kTx (l:List Nat):Key:=.inr ⟨l.toArray⟩
section
variable {X:Cx}
end
end L2
set_option Elab.async false
set_option linter.all false
set_option maxRecDepth 100000
namespace L2
open PySem PySem.Spec PyProof.Rows
def fpl (l w:List Nat):Nat:=((List.range (l.length + 1)).find? fun i=>decide (i + w.length≤l.length)&&decide ((l.drop i).take w.length=w)).getD 0
theorem fpl_ok {l w:List Nat} {i:Nat} (h:AtW l w i) (hm:∀ j,j < i→¬ AtW l w j):fpl l w=i:=by
  unfold fpl
  have:((List.range (l.length + 1)).find? fun i=>decide (i + w.length≤l.length)&&decide ((l.drop i).take w.length=w))=some i:=by
    rw[List.find?_range_eq_some]
    refine ⟨by rw[decide_eq_true h.1,decide_eq_true h.2];rfl,List.mem_range.mpr (by have:=h.1;omega),fun j hj=>?_⟩
    rw[Bool.not_eq_true',Bool.and_eq_false_iff,decide_eq_false_iff_not,decide_eq_false_iff_not]
    by_cases c:j + w.length≤l.length
    · exact .inr fun z=>hm j hj ⟨c,z⟩
    · exact .inl c
  rw[this];rfl
theorem befW_asym {a b:List Nat} (h1:BefW a b) (h2:BefW b a):False:=by
  rcases h1 with h1 | ⟨h1,k1⟩ <;> rcases h2 with h2 | ⟨h2,k2⟩
  · omega
  · omega
  · omega
  · exact List.lt_asymm k1 k2
theorem sorted_one:∀ {a b:List (List Nat)},a.Pairwise BefW→b.Pairwise BefW→(∀ x,x∈a↔x∈b)→a=b
  | [],[],_,_,_=>rfl
  | [],y :: b,_,_,h=>by have:=(h y).mpr List.mem_cons_self;cases this
  | x :: a,[],_,_,h=>by have:=(h x).mp List.mem_cons_self;cases this
  | x :: a,y :: b,ha,hb,h=>by
    have pa:=List.pairwise_cons.mp ha
    have pb:=List.pairwise_cons.mp hb
    have e:x=y:=by
      rcases List.mem_cons.mp ((h x).mp List.mem_cons_self) with z | z
      · exact z
      · rcases List.mem_cons.mp ((h y).mpr List.mem_cons_self) with z2 | z2
        · exact z2.symm
        · exact (befW_asym (pb.1 x z) (pa.1 y z2)).elim
    subst e
    congr 1
    refine sorted_one pa.2 pb.2 fun z=>?_
    constructor
    · intro hz
      rcases List.mem_cons.mp ((h z).mp (List.mem_cons_of_mem _ hz)) with e | e
      · rw[e] at hz;exact (befW_irr (pa.1 x hz)).elim
      · exact e
    · intro hz
      rcases List.mem_cons.mp ((h z).mpr (List.mem_cons_of_mem _ hz)) with e | e
      · rw[e] at hz;exact (befW_irr (pb.1 x hz)).elim
      · exact e
theorem kTx_inj {x y:List Nat} (e:kTx x=kTx y):x=y:=by unfold kTx at e;injection e with e;injection e with e;injection e
def Seen (l:List Nat) (s j:Nat) (x:List Nat):Prop:=(x.length < s∧Inf x l)∨(x.length=s∧∃ i,i < j∧AtW l x i)
structure KInv (l:List Nat) (s j:Nat) (kvs:List (Key×V)) (ws:List (List Nat)):Prop where
  keys:kvs.map (·.1)=ws.map kTx
  nd:ws.Nodup
  mem:∀ x,x∈ws↔Seen l s j x
  val:∀ x,x∈ws→valV kvs (kTx x)=some (.int (fpl l x:Nat))
  len:kvs.length≤41 * s + j
theorem KInv.no {l:List Nat} {s j:Nat} {kvs:List (Key×V)} {ws:List (List Nat)} (h:KInv l s j kvs ws) {x:List Nat} (hx:x∉ws):valV kvs (kTx x)=none:=by
  cases e:valV kvs (kTx x) with
  | none=>rfl
  | some v=>
    have:=valV_in e
    rw[h.keys] at this
    obtain ⟨y,hy,ey⟩:=List.mem_map.mp this
    rw[kTx_inj ey] at hy
    exact absurd hy hx
theorem KInv.start (l:List Nat):KInv l 1 0 (mergeK [] [(kTx [],.int 0)]) [[]]:=by
  have e:mergeK [] [(kTx [],V.int 0)]=[(kTx [],V.int 0)]:=rfl
  rw[e]
  refine ⟨rfl,by simp,fun x=>?_,fun x hx=>?_,by simp⟩
  · unfold Seen
    constructor
    · intro h
      rw[List.mem_singleton.mp h]
      exact .inl ⟨by simp,Inf.nil l⟩
    · rintro (⟨h,_⟩ | ⟨_,i,hi,_⟩)
      · have:x=[]:=List.length_eq_zero_iff.mp (by omega)
        rw[this];simp
      · omega
  · rw[List.mem_singleton.mp hx,valV_pos rfl,fpl_ok (AtW.nil l) (fun j hj=>by omega)]
    rfl
theorem atW_one {l x y:List Nat} {i:Nat} (hx:AtW l x i) (hy:AtW l y i) (e:x.length=y.length):x=y:=by rw[←hx.2,←hy.2,e]
theorem KInv.put {l:List Nat} {s j:Nat} {kvs:List (Key×V)} {ws:List (List Nat)} (h:KInv l s j kvs ws) {x:List Nat} (hl:x.length=s) (ha:AtW l x j) (hv:valV kvs (kTx x)=none):KInv l s (j + 1) (putK kvs (kTx x) (.int (j:Nat))) (ws++[x]):=by
  have hx:x∉ws:=fun hx=>by rw[h.val x hx] at hv;cases hv
  refine ⟨?_,?_,fun y=>?_,fun y hy=>?_,by rw[putK_new _ hv,List.length_append,List.length_singleton];have:=h.len;omega⟩
  · rw[putK_new _ hv,List.map_append,h.keys,List.map_append];rfl
  · rw[List.nodup_append]
    refine ⟨h.nd,by simp,fun a ha b hb=>?_⟩
    rw[List.mem_singleton.mp hb]
    exact fun e=>hx (e▸ha)
  · rw[List.mem_append,h.mem,List.mem_singleton]
    unfold Seen
    constructor
    · rintro ((h1 | ⟨h1,i,hi,h2⟩) | rfl)
      · exact .inl h1
      · exact .inr ⟨h1,i,by omega,h2⟩
      · exact .inr ⟨hl,j,by omega,ha⟩
    · rintro (h1 | ⟨h1,i,hi,h2⟩)
      · exact .inl (.inl h1)
      · by_cases c:i < j
        · exact .inl (.inr ⟨h1,i,c,h2⟩)
        · have:i=j:=by omega
          subst this
          exact .inr (atW_one h2 ha (by omega))
  · rw[valV_put]
    by_cases e:y=x
    · subst e
      rw[if_pos rfl,fpl_ok ha fun i hi hat=>hx ((h.mem y).mpr (.inr ⟨hl,i,hi,hat⟩))]
    · rw[if_neg (fun z=>e (kTx_inj z))]
      rcases List.mem_append.mp hy with z | z
      · exact h.val y z
      · exact absurd (List.mem_singleton.mp z) e
theorem KInv.up {l:List Nat} {s j:Nat} {kvs:List (Key×V)} {ws:List (List Nat)} (h:KInv l s j kvs ws) (hs:1≤s) (hl:l.length≤40) (hj:j=l.length - s + 1) (hsl:s≤l.length):KInv l (s + 1) 0 kvs ws:=by
  refine ⟨h.keys,h.nd,fun y=>?_,h.val,by have:=h.len;omega⟩
  rw[h.mem]
  unfold Seen
  constructor
  · rintro (⟨h1,h2⟩ | ⟨h1,i,hi,h2⟩)
    · exact .inl ⟨by omega,h2⟩
    · exact .inl ⟨by omega,i,h2⟩
  · rintro (⟨h1,h2⟩ | ⟨h1,i,hi,h2⟩)
    · by_cases c:y.length < s
      · exact .inl ⟨c,h2⟩
      · obtain ⟨i,h2⟩:=h2
        refine .inr ⟨by omega,i,?_,h2⟩
        have:=h2.1
        omega
    · omega
structure KAll (l:List Nat) (kvs:List (Key×V)) (ws:List (List Nat)):Prop where
  keys:kvs.map (·.1)=ws.map kTx
  nd:ws.Nodup
  mem:∀ x,x∈ws↔Inf x l
  val:∀ x,Inf x l→valV kvs (kTx x)=some (.int (fpl l x:Nat))
  no:∀ x,¬ Inf x l→valV kvs (kTx x)=none
  len:kvs.length≤1700
theorem KInv.all {l:List Nat} {kvs:List (Key×V)} {ws:List (List Nat)} (hl:l.length≤40) (h:KInv l (l.length + 1) 0 kvs ws):KAll l kvs ws:=by
  have hm:∀ x,x∈ws↔Inf x l:=fun x=>by
    rw[h.mem]
    unfold Seen
    constructor
    · rintro (⟨_,h2⟩ | ⟨h1,i,hi,h2⟩)
      · exact h2
      · omega
    · intro h2
      have:=h2.len
      exact .inl ⟨by omega,h2⟩
  exact ⟨h.keys,h.nd,hm,fun x hx=>h.val x ((hm x).mpr hx),fun x hx=>h.no fun z=>hx ((hm x).mp z),by have:=h.len;omega⟩
def LInv (l m:List Nat) (ws:List (List Nat)) (i j:Nat) (L:List (List Nat)):Prop:=L.Nodup∧L.length≤4 * i + j∧∀ x,x∈L↔Miss l x∧∃ c w,x=c :: w∧((w∈ws.take i∧c∈m)∨(ws[i]?=some w∧c∈m.take j))
theorem LInv.start (l m:List Nat) (ws:List (List Nat)):LInv l m ws 0 0 []:=by
  refine ⟨by simp,by simp,fun x=>⟨fun h=>(by simp at h),?_⟩⟩
  rintro ⟨_,c,w,_,⟨h,_⟩ | ⟨_,h⟩⟩ <;> simp at h
theorem take_snoc {α:Type} {l:List α} {i:Nat} {x:α} (h:l[i]?=some x):l.take (i + 1)=l.take i++[x]:=by rw[List.take_succ,h];rfl
theorem LInv.skip {l m:List Nat} {ws:List (List Nat)} {i j:Nat} {L:List (List Nat)} (h:LInv l m ws i j L) {c:Nat} {w:List Nat} (hc:m[j]?=some c) (hw:ws[i]?=some w) (hn:¬ Miss l (c :: w)):LInv l m ws i (j + 1) L:=by
  refine ⟨h.1,by have:=h.2.1;omega,fun x=>?_⟩
  rw[h.2.2,take_snoc hc]
  constructor
  · rintro ⟨hm,d,u,rfl,h1 | ⟨h1,h2⟩⟩
    · exact ⟨hm,d,u,rfl,.inl h1⟩
    · exact ⟨hm,d,u,rfl,.inr ⟨h1,List.mem_append_left _ h2⟩⟩
  · rintro ⟨hm,d,u,rfl,h1 | ⟨h1,h2⟩⟩
    · exact ⟨hm,d,u,rfl,.inl h1⟩
    · rcases List.mem_append.mp h2 with h3 | h3
      · exact ⟨hm,d,u,rfl,.inr ⟨h1,h3⟩⟩
      · rw[List.mem_singleton.mp h3] at hm
        rw[hw] at h1
        rw[←Option.some.inj h1] at hm
        exact absurd hm hn
theorem nodup_take {α:Type} {l:List α} {i:Nat} {x:α} (nd:l.Nodup) (h:l[i]?=some x):x∉l.take i:=by
  intro hx
  obtain ⟨k,hk,e⟩:=List.mem_iff_getElem.mp hx
  obtain ⟨hi,e2⟩:=List.getElem?_eq_some_iff.mp h
  rw[List.length_take] at hk
  rw[List.getElem_take] at e
  have hk':k < i:=by omega
  have:=(List.pairwise_iff_getElem.mp nd) k i (by omega) hi hk'
  exact this (e.trans e2.symm)
theorem LInv.add {l m:List Nat} {ws:List (List Nat)} {i j:Nat} {L:List (List Nat)} (h:LInv l m ws i j L) (nw:ws.Nodup) (nm:m.Nodup) {c:Nat} {w:List Nat} (hc:m[j]?=some c) (hw:ws[i]?=some w) (hn:Miss l (c :: w)):LInv l m ws i (j + 1) (L++[c :: w]):=by
  have hx:c :: w∉L:=fun hx=>by
    obtain ⟨_,d,u,e,h1 | ⟨h1,h2⟩⟩:=(h.2.2 _).mp hx
    · injection e with e1 e2
      rw[←e2] at h1
      exact nodup_take nw hw h1.1
    · injection e with e1 e2
      rw[←e1] at h2
      exact nodup_take nm hc h2
  refine ⟨?_,by rw[List.length_append,List.length_singleton];have:=h.2.1;omega,fun x=>?_⟩
  · rw[List.nodup_append]
    refine ⟨h.1,by simp,fun a ha b hb=>?_⟩
    rw[List.mem_singleton.mp hb]
    exact fun e=>hx (e▸ha)
  · rw[List.mem_append,List.mem_singleton,h.2.2,take_snoc hc]
    constructor
    · rintro (⟨hm,d,u,rfl,h1 | ⟨h1,h2⟩⟩ | rfl)
      · exact ⟨hm,d,u,rfl,.inl h1⟩
      · exact ⟨hm,d,u,rfl,.inr ⟨h1,List.mem_append_left _ h2⟩⟩
      · exact ⟨hn,c,w,rfl,.inr ⟨hw,by simp⟩⟩
    · rintro ⟨hm,d,u,rfl,h1 | ⟨h1,h2⟩⟩
      · exact .inl ⟨hm,d,u,rfl,.inl h1⟩
      · rcases List.mem_append.mp h2 with h3 | h3
        · exact .inl ⟨hm,d,u,rfl,.inr ⟨h1,h3⟩⟩
        · rw[hw] at h1
          rw[List.mem_singleton.mp h3,←Option.some.inj h1]
          exact .inr rfl
theorem LInv.next {l m:List Nat} {ws:List (List Nat)} {i:Nat} {L:List (List Nat)} (h:LInv l m ws i m.length L) (m4:m.length≤4) {w:List Nat} (hw:ws[i]?=some w):LInv l m ws (i + 1) 0 L:=by
  refine ⟨h.1,by have:=h.2.1;omega,fun x=>?_⟩
  rw[h.2.2,take_snoc hw,List.take_length]
  constructor
  · rintro ⟨hm,d,u,rfl,⟨h1,h2⟩ | ⟨h1,h2⟩⟩
    · exact ⟨hm,d,u,rfl,.inl ⟨List.mem_append_left _ h1,h2⟩⟩
    · rw[hw] at h1
      exact ⟨hm,d,u,rfl,.inl ⟨by rw[Option.some.inj h1];simp,h2⟩⟩
  · rintro ⟨hm,d,u,rfl,⟨h1,h2⟩ | ⟨_,h2⟩⟩
    · rcases List.mem_append.mp h1 with h3 | h3
      · exact ⟨hm,d,u,rfl,.inl ⟨h3,h2⟩⟩
      · exact ⟨hm,d,u,rfl,.inr ⟨by rw[hw,List.mem_singleton.mp h3],h2⟩⟩
    · simp at h2
theorem LInv.all {l m:List Nat} {ws:List (List Nat)} {L:List (List Nat)} (h:LInv l m ws ws.length 0 L) (hw:∀ x,x∈ws↔Inf x l) (hlm:∀ x∈l,x∈m) (x:List Nat):x∈L↔x∈lackOf l m:=by
  rw[h.2.2,mem_lackOf]
  constructor
  · rintro ⟨hm,c,w,rfl,⟨_,h2⟩ | ⟨_,h2⟩⟩
    · refine ⟨hm,(c :: w).getLast (by simp),?_,List.getLast?_eq_some_getLast _⟩
      cases w with
      | nil=>exact h2
      | cons d r=>
        have e:(c :: d :: r).getLast (by simp)=(d :: r).getLast (by simp):=List.getLast_cons (by simp)
        rw[e]
        exact hlm _ (hm.tail.mem (List.getLast_mem _))
    · simp at h2
  · rintro ⟨hm,c,hc,hl⟩
    cases x with
    | nil=>exact absurd rfl hm.ne
    | cons d w=>
      refine ⟨hm,d,w,rfl,.inl ⟨by rw[List.take_length];exact (hw w).mpr hm.tail,?_⟩⟩
      cases w with
      | nil=>
        have:d=c:=by simpa using hl
        rw[this];exact hc
      | cons e r=>exact hlm _ (hm.init.mem (by simp))
end L2
set_option Elab.async false
set_option linter.all false
set_option maxRecDepth 100000
namespace L2
open PySem PySem.Spec PyProof.Rows
theorem mem_rw0 {l x:List Nat} {n:Nat}:x∈ringWords l n↔∃ i,i < l.length∧x=(List.range n).map fun j=>cyc l (i + j):=by
  unfold ringWords
  rw[(sortT_perm _).mem_iff,mem_ddl,mem_ringList]
theorem rw_sorted (l:List Nat) (n:Nat):(ringWords l n).Pairwise (· < ·):=by
  have h1:(ringWords l n).Pairwise (fun a b=>leT a b=true):=sortT_sorted _
  have h2:(ringWords l n).Nodup:=(sortT_perm _).nodup_iff.mpr (by rw[←dd_list];exact dd_nodup _)
  refine (h1.and h2).imp ?_
  rintro a b ⟨x,y⟩
  have x':¬ b < a:=by simpa [leT] using x
  rcases lt_tri a b with z | z | z
  · exact z
  · exact absurd z y
  · exact absurd z x'
theorem rootLen_per {l:List Nat} (h1:1≤l.length):1≤rootLen l∧rootLen l≤l.length∧∀ k,cyc l (k + rootLen l)=cyc l k:=by
  obtain ⟨r1,r2,r3,_⟩:=rootLen_spec h1
  exact ⟨r1,r2,((per_iff r1 r2).mp r3).2⟩
def RI (l x:List Nat):Prop:=∃ i,∀ j,j < x.length→x[j]?=some (cyc l (i + j))
theorem mem_ringW {l x:List Nat} {n:Nat} (h1:1≤l.length):x∈ringWords l n↔x.length=n∧RI l x:=by
  rw[mem_rw0]
  constructor
  · rintro ⟨i,_,rfl⟩
    refine ⟨by simp,i,fun j hj=>?_⟩
    rw[List.length_map,List.length_range] at hj
    rw[List.getElem?_map,List.getElem?_range hj]
    rfl
  · rintro ⟨rfl,i,h⟩
    refine ⟨i % l.length,Nat.mod_lt _ h1,?_⟩
    apply List.ext_getElem?
    intro j
    rw[List.getElem?_map]
    by_cases hj:j < x.length
    · rw[h j hj,List.getElem?_range hj]
      show _=some (cyc l (i % l.length + j))
      unfold cyc
      rw[Nat.mod_add_mod]
    · rw[List.getElem?_eq_none (by omega),List.getElem?_eq_none (by rw[List.length_range];omega)]
      rfl
theorem RI.nil (l:List Nat):RI l []:=⟨0,fun j hj=>by simp at hj⟩
theorem RI.inf {l u w:List Nat} (h:RI l w) (hu:Inf u w):RI l u:=by
  obtain ⟨i,h⟩:=h
  obtain ⟨k,h1,h2⟩:=hu
  refine ⟨i + k,fun j hj=>?_⟩
  have e:u[j]?=w[k + j]?:=by
    rw[←h2,List.getElem?_take,if_pos hj,List.getElem?_drop]
  rw[e,h (k + j) (by omega),Nat.add_assoc]
structure MissR (l w:List Nat):Prop where
  ne:w≠[]
  init:RI l w.dropLast
  tail:RI l w.tail
  no:¬ RI l w
def lackRT (l m:List Nat) (n:Nat):List (List Nat):=(List.range n).flatMap fun k=>lackA (ringWords l k) (ringWords l (k + 1)) m
theorem lackRT_succ (l m:List Nat) (i:Nat):lackRT l m (i + 1)=lackRT l m i++lackA (ringWords l i) (ringWords l (i + 1)) m:=by
  unfold lackRT
  rw[List.range_succ,List.flatMap_append,List.flatMap_singleton]
theorem mem_lackRT {l m w:List Nat} {n:Nat} (h1:1≤l.length):w∈lackRT l m n↔MissR l w∧(∃ c∈m,w.getLast?=some c)∧w.length≤n:=by
  unfold lackRT
  rw[List.mem_flatMap]
  constructor
  · rintro ⟨k,hk,hw⟩
    have hk:=List.mem_range.mp hk
    obtain ⟨h,c,h2,hc,rfl,h3,h4⟩:=mem_lackA.mp hw
    rw[mem_ringW h1] at h2 h3
    refine ⟨⟨by simp,by simpa using h2.2,h3.2,fun z=>h4 ((mem_ringW h1).mpr ⟨by simp [h2.1],z⟩)⟩,⟨c,hc,by simp⟩,?_⟩
    rw[List.length_append,h2.1,List.length_singleton];omega
  · rintro ⟨⟨ne,hi,ht,hn⟩,⟨c,hc,hl⟩,hlen⟩
    have e:w.dropLast++[c]=w:=by
      rw[List.getLast?_eq_some_getLast ne] at hl
      have h:=List.dropLast_concat_getLast ne
      rw[Option.some.inj hl] at h
      exact h
    have h2:1≤w.length:=List.length_pos_iff.mpr ne
    refine ⟨w.length - 1,List.mem_range.mpr (by omega),mem_lackA.mpr ⟨w.dropLast,c,?_,hc,e.symm,?_,?_⟩⟩
    · rw[mem_ringW h1];exact ⟨List.length_dropLast,hi⟩
    · rw[mem_ringW h1];exact ⟨List.length_tail,ht⟩
    · rw[mem_ringW h1];exact fun z=>hn z.2
theorem lackRT_sorted {l m:List Nat} {n:Nat} (h1:1≤l.length) (hm:m.Pairwise (· < ·)):(lackRT l m n).Pairwise BefW:=by
  unfold lackRT
  have len:∀ k w,w∈lackA (ringWords l k) (ringWords l (k + 1)) m→w.length=k + 1:=fun k w hw=>by
    obtain ⟨h,c,h2,_,rfl,_⟩:=mem_lackA.mp hw
    rw[mem_ringW h1] at h2
    rw[List.length_append,h2.1];rfl
  rw[List.pairwise_flatMap]
  refine ⟨fun k hk=>?_,?_⟩
  · unfold lackA
    rw[List.pairwise_flatMap]
    refine ⟨fun h hh=>?_,?_⟩
    · unfold lackH
      rw[List.pairwise_map]
      exact (hm.filter _).imp fun {c d} hcd=>.inr ⟨by simp,lt_snoc h hcd⟩
    · refine List.Pairwise.imp_of_mem ?_ (rw_sorted l k)
      intro a b ha hb hab x hx y hy
      have la:=((mem_ringW (l:=l) h1).mp ha).1
      have lb:=((mem_ringW (l:=l) h1).mp hb).1
      unfold lackH at hx hy
      obtain ⟨c,_,rfl⟩:=List.mem_map.mp hx
      obtain ⟨d,_,rfl⟩:=List.mem_map.mp hy
      exact .inr ⟨by simp [la,lb],lt_append (by rw[la,lb]) hab⟩
  · refine List.Pairwise.imp_of_mem ?_ List.pairwise_lt_range
    intro i j hi hj hij x hx y hy
    exact .inl (by rw[len i x hx,len j y hy];omega)
def sumW (f:Nat→Nat) (i:Nat):Nat→Nat
  | 0=>0
  | n + 1=>sumW f i n + f (i + n)
theorem sumW_shift (f:Nat→Nat) (i:Nat):∀ n,sumW f i (n + 1)=f i + sumW f (i + 1) n
  | 0=>by simp [sumW]
  | n + 1=>by
    have ih:=sumW_shift f i n
    have e:sumW f i (n + 1 + 1)=sumW f i (n + 1) + f (i + (n + 1)):=rfl
    have e2:sumW f (i + 1) (n + 1)=sumW f (i + 1) n + f (i + 1 + n):=rfl
    have e3:i + (n + 1)=i + 1 + n:=by omega
    rw[e,e2,ih,e3]
    omega
theorem sumW_period {f:Nat→Nat} {r:Nat} (hf:∀ k,f (k + r)=f k) (i:Nat):sumW f (i + 1) r=sumW f i r:=by
  have h1:=sumW_shift f i r
  have h2:sumW f i (r + 1)=sumW f i r + f (i + r):=rfl
  rw[hf] at h2
  omega
theorem sumW_any {f:Nat→Nat} {r:Nat} (hf:∀ k,f (k + r)=f k):∀ i,sumW f i r=sumW f 0 r
  | 0=>rfl
  | i + 1=>by rw[sumW_period hf,sumW_any hf i]
theorem sumW_congr {f:Nat→Nat} {i j:Nat}:∀ {n},(∀ t,t < n→f (i + t)=f (j + t))→sumW f i n=sumW f j n
  | 0,_=>rfl
  | n + 1,h=>by
    show sumW f i n + f (i + n)=sumW f j n + f (j + n)
    rw[sumW_congr fun t ht=>h t (by omega),h n (by omega)]
theorem window_one {f:Nat→Nat} {r i j:Nat} (hr:1≤r) (hf:∀ k,f (k + r)=f k) (h:∀ t,t + 1 < r→f (i + t)=f (j + t)):∀ t,f (i + t)=f (j + t):=by
  have all:∀ t,t < r→f (i + t)=f (j + t):=by
    intro t ht
    by_cases z:t + 1 < r
    · exact h t z
    · have e:r=t + 1:=by omega
      have h1:=(sumW_any hf i).trans (sumW_any hf j).symm
      rw[e] at h1
      have h2:sumW f i t + f (i + t)=sumW f j t + f (j + t):=h1
      have h3:sumW f i t=sumW f j t:=sumW_congr fun u hu=>h u (by omega)
      omega
  have per:∀ k t,f (t + k * r)=f t:=by
    intro k
    induction k with
    | zero=>intro t;simp
    | succ k ih=>intro t;rw[Nat.succ_mul,←Nat.add_assoc,hf,ih]
  intro t
  have e1:f (i + t)=f (i + t % r):=by
    rw[←per (t / r) (i + t % r)]
    congr 1
    have:=Nat.div_add_mod t r
    rw[Nat.mul_comm] at this
    omega
  have e2:f (j + t)=f (j + t % r):=by
    rw[←per (t / r) (j + t % r)]
    congr 1
    have:=Nat.div_add_mod t r
    rw[Nat.mul_comm] at this
    omega
  rw[e1,e2]
  exact all _ (Nat.mod_lt _ hr)
theorem missR_len {l w:List Nat} (h1:1≤l.length) (h:MissR l w):w.length≤rootLen l:=by
  obtain ⟨r1,_,per⟩:=rootLen_per h1
  by_cases z:w.length≤rootLen l
  · exact z
  · exfalso
    obtain ⟨j,hj⟩:=h.init
    obtain ⟨i,hi⟩:=h.tail
    rw[List.length_dropLast] at hj
    rw[List.length_tail] at hi
    have gi:∀ t,t + 1 < w.length→w[t]?=some (cyc l (j + t)):=fun t ht=>by
      have:=hj t (by omega)
      rw[List.dropLast_eq_take,List.getElem?_take,if_pos (by omega)] at this
      exact this
    have gt:∀ t,t + 1 < w.length→w[t + 1]?=some (cyc l (i + t)):=fun t ht=>by
      have:=hi t (by omega)
      rw[List.getElem?_tail] at this
      exact this
    have ov:∀ t,cyc l (i + t)=cyc l (j + 1 + t):=window_one r1 per fun t ht=>by
      have a:=gt t (by omega)
      have b:=gi (t + 1) (by omega)
      rw[a] at b
      have e:j + (t + 1)=j + 1 + t:=by omega
      rw[e] at b
      exact Option.some.inj b
    refine h.no ⟨j,fun t ht=>?_⟩
    by_cases y:t + 1 < w.length
    · exact gi t y
    · match t,y with
      | 0,y=>
        have:w.length=1:=by omega
        omega
      | t + 1,y=>
        rw[gt t (by omega),ov]
        congr 2
        omega
theorem lackR_complete {l m:List Nat} (h1:1≤l.length):∀ (n:Nat) (w:List Nat),w.length=n→(∀ c∈w,c∈m)→¬ RI l w→∃ v,v∈lackRT l m (rootLen l)∧Inf v w:=by
  intro n
  induction n with
  | zero=>
    intro w hw _ hn
    rw[List.length_eq_zero_iff.mp hw] at hn
    exact absurd (RI.nil l) hn
  | succ n ih=>
    intro w hw hm hn
    have ne:w≠[]:=fun e=>by rw[e] at hw;simp at hw
    by_cases hi:RI l w.dropLast
    · by_cases ht:RI l w.tail
      · have ms:MissR l w:=⟨ne,hi,ht,hn⟩
        exact ⟨w,(mem_lackRT h1).mpr ⟨ms,⟨w.getLast ne,hm _ (List.getLast_mem ne),List.getLast?_eq_some_getLast ne⟩,missR_len h1 ms⟩,Inf.refl w⟩
      · obtain ⟨v,k1,k2⟩:=ih w.tail (by rw[List.length_tail];omega) (fun c hc=>hm c (List.mem_of_mem_tail hc)) ht
        exact ⟨v,k1,k2.trans (inf_tail w)⟩
    · obtain ⟨v,k1,k2⟩:=ih w.dropLast (by rw[List.length_dropLast];omega) (fun c hc=>hm c (List.mem_of_mem_take (by rw[←List.dropLast_eq_take];exact hc))) hi
      exact ⟨v,k1,k2.trans (inf_init w)⟩
theorem lackR_none {l m w:List Nat} (h1:1≤l.length) (hm:∀ c∈w,c∈m):RI l w↔∀ v∈lackRT l m (rootLen l),¬ Inf v w:=by
  constructor
  · intro h v hv hw
    exact ((mem_lackRT h1).mp hv).1.no (h.inf hw)
  · intro h
    by_cases hi:RI l w
    · exact hi
    · obtain ⟨v,k1,k2⟩:=lackR_complete (m:=m) h1 _ w rfl hm hi
      exact absurd k2 (h v k1)
theorem lackR_one {l m:List Nat} {c:Nat} (h1:1≤l.length) (hm:m=[c]) (hl:∀ x∈l,x∈m):lackRT l m (rootLen l)=[]:=by
  rw[List.eq_nil_iff_forall_not_mem]
  intro w hw
  obtain ⟨ms,⟨d,hd,hlast⟩,_⟩:=(mem_lackRT h1).mp hw
  have cy:∀ k,cyc l k=c:=fun k=>by
    have:cyc l k∈l:=by
      have hk:=Nat.mod_lt k (show 0 < l.length from h1)
      have e:l[k % l.length]?=some (cyc l k):=by
        rw[List.getElem?_eq_getElem hk]
        unfold cyc
        rw[List.getD_eq_getElem?_getD,List.getElem?_eq_getElem hk]
        rfl
      exact List.mem_of_getElem? e
    have:=hl _ this
    rw[hm] at this
    exact List.mem_singleton.mp this
  refine ms.no ⟨0,fun j hj=>?_⟩
  rw[cy]
  obtain ⟨i,hi⟩:=ms.init
  rw[List.length_dropLast] at hi
  by_cases y:j + 1 < w.length
  · have:=hi j (by omega)
    rw[List.dropLast_eq_take,List.getElem?_take,if_pos (by omega),cy] at this
    exact this
  · have e:j=w.length - 1:=by omega
    rw[List.getLast?_eq_getElem?,←e] at hlast
    rw[hlast]
    rw[hm] at hd
    rw[List.mem_singleton.mp hd]
end L2
set_option Elab.async false
set_option linter.all false
set_option maxRecDepth 100000
namespace L2
open PySem PySem.Spec PyProof.Rows
def Ext (s L:List Nat):Prop:=(∃ c,L=s++[c])∨∃ c,L=c :: s
theorem Ext.len {s L:List Nat} (h:Ext s L):L.length=s.length + 1:=by
  rcases h with ⟨c,rfl⟩ | ⟨c,rfl⟩ <;> simp
theorem Ext.inf {s L:List Nat} (h:Ext s L):Inf s L:=by
  rcases h with ⟨c,rfl⟩ | ⟨c,rfl⟩
  · have:=inf_init (s++[c]);rwa [List.dropLast_concat] at this
  · exact inf_tail (c :: s)
def Frs (s L w:List Nat):Prop:=Inf w L∧¬ Inf w s
theorem Frs.ne {s L w:List Nat} (h:Frs s L w):w≠[]:=fun e=>h.2 (e▸Inf.nil s)
instance (w l:List Nat):Decidable (Inf w l):=decidable_of_iff (∃ i,i < l.length + 1∧i + w.length≤l.length∧(l.drop i).take w.length=w) ⟨fun ⟨i,_,h⟩=>⟨i,h⟩,fun ⟨i,h⟩=>⟨i,by have:=h.1;omega,h⟩⟩
end L2
set_option Elab.async false
set_option linter.all false
set_option maxRecDepth 100000
namespace L2
open PySem PySem.Spec PyProof.Rows
theorem sort_keyEq (a g:Addr):Builtin.«list.sort» ⟨[.ref a],[(Str.ofString "key",.ref g)]⟩=(do
    let its ←Builtin.List.listItems (.ref a)
    Builtin.List.listUpdate (.ref a) fun _=>#[]
    let be ←seqEpoch a
    let hd ←newTuple its.toList
    let ks ←newList []
    holding [hd,ks] do
      rule "list.sort.key"
      for x in its do
        match ←(call (.ref g) [x]).attempt with
        | .ok k=>Builtin.List.listUpdate ks (·.push k)
        | .error e=>
          rule "list.sort.key-raised"
          let md ←Builtin.List.listItems ks
          Builtin.List.listUpdate ks fun _=>#[]
          letGo md.toList.reverse [e]
          Builtin.List.listUpdate (.ref a) fun _=>its
          throw e
      let kys ←Builtin.List.listItems ks
      let kind ←if its.size < 2 then pure general' else keyKind' kys
      let ((),v) ←(if its.size < 2 then pure () else sortRuns').run (SortSt.mk' kind (kys.zip its) #[] 7 none)
      Builtin.List.listUpdate ks fun _=>#[]
      letGo ((arrOf v).map (·.1)).toList (failedOf v).toList
      let tch:=(←seqEpoch a) != be
      Builtin.List.listUpdate (.ref a) fun _=>(arrOf v).map (·.2)
      if let some e:=failedOf v then rule "list.sort.comparison-raised";throw e
      if tch then rule "list.sort.modified";raiseError "ValueError" "list modified during sort"
      ret .none):=rfl
def Kp (h g:Heap):Prop:=∀ b o,h.get? b=some o→g.get? b=some o
def KeyCall (M:Model) (A:Around) (g:Addr) (vs:List Value) (kf:Value→Int×List Nat) (s:Shared):Prop:=
  ∀ (E:Value→Shared→Prop) (s':Shared) (v:Value) (Q:Value→Shared→Prop),v∈vs→Kp s.heap s'.heap→s'.gens=s.gens→s'.os=s.os →
    (∀ (s2:Shared) (k:Value),Kp s'.heap s2.heap→s2.gens=s'.gens→s2.os=s'.os→IsT s2.heap k (kf v).1 (kf v).2→Q k s2)→wpAny M A (call (.ref g) [v]) Q E s'
theorem IsT.kp {h g:Heap} {v:Value} {n:Int} {c:List Nat} (k:IsT h v n c) (q:Kp h g):IsT g v n c:=by
  obtain ⟨a,t,w,u,e,h1,h2,h3⟩:=k
  exact ⟨a,t,w,u,e,h1,q _ _ h2,h3⟩
theorem IsT.up {h:Heap} {v:Value} {n:Int} {c:List Nat} {K:Addr} {xs:Array Value} {m:Nat} {f:Obj→Obj} (k:IsT h v n c) (hK:h.get? K=some (seqObj "list" xs m)):IsT (h.update K f) v n c:=by
  obtain ⟨a,t,w,u,e,h1,h2,h3⟩:=k
  refine ⟨a,t,w,u,e,h1,?_,h3⟩
  rw[(Heap.SameBut.update h K f).2 a ?_]
  · exact h2
  · rintro rfl
    rw[h2] at hK
    have:=congrArg Obj.cls (Option.some.inj hK)
    exact absurd (show Value.type "tuple"=Value.type "list" from this) (by decide)
def KeysAre (h:Heap) (kf:Value→Int×List Nat) (ks vs:List Value):Prop:=ks.length=vs.length∧∀ (i:Nat) (k v:Value),ks[i]?=some k→vs[i]?=some v→IsT h k (kf v).1 (kf v).2
section
variable {prog:Program} {w:World} {A:Around} {E:Value→Shared→Prop} {s:Shared}
theorem keys_ok {g K a:Addr} {vs:List Value} {kf:Value→Int×List Nat} {oa:Obj} {Q:PUnit→Shared→Prop} {er:Value→Sem (ForInStep PUnit)} (hc:KeyCall (model prog w) A g vs kf s) (hK0:s.heap.get? K=none) (ha0:a≠K) (hN:vs.length≤sizeLine)
    (q:∀ (s2:Shared) ks n,Kp s.heap s2.heap→s2.gens=s.gens→s2.os=s.os→s2.heap.get? K=some (seqObj "list" ks.toArray n)→KeysAre s2.heap kf ks vs→s2.heap.get? a=some oa→Q ⟨⟩ s2):
    ∀ (l dn ks:List Value) (s':Shared) (n:Nat),vs=dn++l→Kp s.heap s'.heap→s'.gens=s.gens→s'.os=s.os→s'.heap.get? K=some (seqObj "list" ks.toArray n)→KeysAre s'.heap kf ks dn→s'.heap.get? a=some oa →
      wpAny (model prog w) A (forIn l PUnit.unit fun x _=>do
        match ←(call (.ref g) [x]).attempt with
        | .ok k=>do
          Builtin.List.listUpdate (.ref K) (·.push k)
          pure (ForInStep.yield PUnit.unit)
        | .error e=>er e) Q E s'
  | [],dn,ks,s',n,hv,h1,h2,h3,h4,h5,h6=>by
    rw[List.append_nil] at hv
    subst hv
    rw[List.forIn_nil]
    exact wpAny_pure (q s' ks n h1 h2 h3 h4 h5 h6)
  | x :: l,dn,ks,s',n,hv,h1,h2,h3,h4,h5,h6=>by
    rw[List.forIn_cons]
    refine wpAny_bind (wpAny_bind (wpAny_attempt (hc _ s' x _ (by rw[hv];simp) h1 h2 h3 fun s2 k k1 k2 k3 k4=>?_)))
    have hlen:ks.length < vs.length:=by rw[h5.1,hv];simp
    have hK2:=k1 _ _ h4
    refine wpAny_bind (listUpdate_at hK2 rfl (wpAny_pure ?_) (hsz:=by rw[List.size_toArray];omega) (hsz2:=by rw[Array.size_push,List.size_toArray];omega))
    dsimp only
    have sb:=Heap.SameBut.update s2.heap K (Obj.mapSeq fun z=>z.push k)
    refine keys_ok hc hK0 ha0 hN q l (dn++[x]) (ks++[k]) _ _ (by rw[hv];simp) ?_ (k2.trans h2) (k3.trans h3) (by
      have:=get?_update_seq hK2 (fun z=>z.push k)
      rw[List.push_toArray] at this
      exact this) ?_ ?_
    · intro b o hb
      refine (sb.2 b ?_).trans (k1 b o (h1 b o hb))
      rintro rfl
      rw[hK0] at hb;cases hb
    · refine ⟨by simp [h5.1],fun i k' v' e1 e2=>?_⟩
      by_cases hi:i < ks.length
      · rw[List.getElem?_append_left hi] at e1
        rw[List.getElem?_append_left (by rw[←h5.1];exact hi)] at e2
        exact ((h5.2 i k' v' e1 e2).kp k1).up hK2
      · have hi2:i=ks.length:=by
          have:=(List.getElem?_eq_some_iff.mp e1).1
          simp at this;omega
        subst hi2
        rw[List.getElem?_append_right (Nat.le_refl _),Nat.sub_self] at e1
        rw[h5.1,List.getElem?_append_right (Nat.le_refl _),Nat.sub_self] at e2
        cases e1;cases e2
        exact k4.up hK2
    · exact (sb.2 a ha0).trans (k1 a oa h6)
end
end L2
set_option Elab.async false
set_option linter.all false
set_option maxRecDepth 100000
namespace L2
open PySem PySem.Spec PyProof.Rows
section
variable {prog:Program} {w:World} {A:Around} {E:Value→Shared→Prop} {s s0:Shared}
theorem zip_key {h:Heap} {kf:Value→Int×List Nat} {ks vs:List Value} (hk:KeysAre h kf ks vs) {p:Keyed} (hp:p∈ks.zip vs):keyT h p.1=kf p.2∧∃ n c,IsT h p.1 n c:=by
  obtain ⟨i,hi,rfl⟩:=List.getElem_of_mem hp
  rw[List.length_zip] at hi
  have h1:i < ks.length:=by omega
  have h2:i < vs.length:=by omega
  have:=hk.2 i ks[i] vs[i] (List.getElem?_eq_getElem h1) (List.getElem?_eq_getElem h2)
  rw[List.getElem_zip]
  exact ⟨this.key,_,_,this⟩
theorem sort_keyed {a g:Addr} {vs:List Value} {kf:Value→Int×List Nat} {n:Nat} {P:Fin→Shared→Prop} (hc:KeyCall (model prog w) A g vs kf s0) (hb:Kp s0.heap s.heap) (hg:s.gens=s0.gens) (hos:s.os=s0.os) (ha0:s0.heap.get? a=none)
    (ho:s.heap.get? a=some (seqObj "list" vs.toArray n)) (hN:vs.length≤sizeLine)
    (h:∀ (s':Shared) (us:List Value) (e:Nat),Kp s0.heap s'.heap→s'.gens=s0.gens→s'.os=s0.os→s'.heap.get? a=some (seqObj "list" us.toArray e)→us.Perm vs→us.Pairwise (fun x y=>ltP (kf y) (kf x)=false)→P (.done (.ret .none)) s'):
    wpAny (model prog w) A (Builtin.«list.sort» ⟨[.ref a],[(Str.ofString "key",.ref g)]⟩) P E s:=by
  have hlt:a < s.heap.objs.size:=Heap.lt_size ho
  have up:=get?_update_seq ho (fun _=>#[])
  generalize hep:(if (#[]:Array Value).size == vs.toArray.size then n else n + 1)=ep at up
  obtain ⟨h1,hh1⟩:∃ h1,h1=s.heap.update a (Obj.mapSeq fun _=>#[]):=⟨_,rfl⟩
  have k1:Kp s0.heap h1:=by
    intro b o q
    rw[hh1,(Heap.SameBut.update s.heap a _).2 b ?_]
    · exact hb b o q
    · rintro rfl;rw[ha0] at q;cases q
  rw[←hh1] at up
  obtain ⟨K,hK⟩:∃ K,K=(h1.push (seqObj "tuple" vs.toArray 0)).objs.size:=⟨_,rfl⟩
  obtain ⟨h3,hh3⟩:∃ h3,h3=(h1.push (seqObj "tuple" vs.toArray 0)).push (seqObj "list" #[] 0):=⟨_,rfl⟩
  have k3:Kp h1 h3:=fun b o q=>by rw[hh3];exact Heap.get?_push_of_some _ (Heap.get?_push_of_some _ q)
  have oK:h3.get? K=some (seqObj "list" #[] 0):=by rw[hh3,hK];exact Heap.get?_push_size _ rfl
  have nK:s0.heap.get? K=none:=by
    cases z:s0.heap.get? K with
    | none=>rfl
    | some o=>
      have:=Heap.lt_size (k1 _ _ z)
      rw[hK,size_push'] at this
      exact absurd this (Nat.not_lt.mpr (Nat.le_succ _))
  have aK:a≠K:=by
    rintro rfl
    have h8:=Heap.lt_size up
    rw[hK,size_push'] at h8
    exact absurd h8 (Nat.not_lt.mpr (Nat.le_succ _))
  subst hK
  rw[sort_keyEq]
  refine wpAny_bind (listItems_at ho rfl (wpAny_bind (listUpdate_at ho rfl ?_ (hsz:=by rw[List.size_toArray];exact hN))))
  rw[←hh1]
  refine wpAny_bind (seqEpoch_at up rfl (wpAny_bind (wpAny_newTuple (wpAny_bind (wpAny_newList (wpAny_holding ?_))))))
  refine wpAny_bind (wpAny_rule ?_)
  rw[List.forIn_toArray]
  show wpAny _ _ _ _ _ { s with heap:=(h1.push (seqObj "tuple" vs.toArray 0)).push (seqObj "list" #[] 0) }
  rw[←hh3]
  refine wpAny_bind (keys_ok hc nK aK hN ?_ vs [] [] { s with heap:=h3 } 0 rfl (fun b o q=>k3 b o (k1 b o q)) hg hos oK ⟨rfl,fun i k v e _=>by simp at e⟩ (k3 a _ up))
  intro s2 ks m j1 j2 j3 j4 j5 j6
  dsimp only
  refine wpAny_bind (listItems_at j4 rfl ?_)
  have fin:∀ v:SortSt,failedOf v=none→((arrOf v).map (·.2)).toList.Perm vs→((arrOf v).map (·.2)).toList.Pairwise (fun x y=>ltP (kf y) (kf x)=false) →
      wpAny (model prog w) A (do
        Builtin.List.listUpdate (.ref (h1.push (seqObj "tuple" vs.toArray 0)).objs.size) fun _=>#[]
        letGo ((arrOf v).map (·.1)).toList (failedOf v).toList
        let tch:=(←seqEpoch a) != ep
        Builtin.List.listUpdate (.ref a) fun _=>(arrOf v).map (·.2)
        if let some e:=failedOf v then rule "list.sort.comparison-raised";throw e
        if tch then rule "list.sort.modified";raiseError "ValueError" "list modified during sort"
        ret .none) P E s2:=by
    intro v f1 f2 f3
    have hl:=j5.1
    refine wpAny_bind (listUpdate_at j4 rfl (wpAny_bind (wpAny_letGo ?_)) (hsz:=by rw[List.size_toArray];omega))
    have sb:=Heap.SameBut.update s2.heap (h1.push (seqObj "tuple" vs.toArray 0)).objs.size (Obj.mapSeq fun _=>#[])
    have a1:(s2.heap.update (h1.push (seqObj "tuple" vs.toArray 0)).objs.size (Obj.mapSeq fun _=>#[])).get? a=some (seqObj "list" #[] ep):=(sb.2 a aK).trans j6
    refine wpAny_bind (seqEpoch_at a1 rfl (wpAny_bind (listUpdate_at a1 rfl ?_ (hsz2:=by
      have:=f2.length_eq
      rw[Array.length_toList] at this
      omega))))
    rw[f1,bne_self_eq_false]
    obtain ⟨out,hout⟩:∃ out,out=(arrOf v).map (·.2):=⟨_,rfl⟩
    rw[←hout] at f2 f3 ⊢
    have a2:=get?_update_seq a1 (fun _=>out)
    generalize (if out.size == (#[]:Array Value).size then ep else ep + 1)=e5 at a2
    have e3:out.toList.toArray=out:=Array.toArray_toList
    refine wpAny_pure (h _ out.toList e5 ?_ j2 j3 (by rw[e3];exact a2) f2 f3)
    intro b o q
    refine ((Heap.SameBut.update _ a _).2 b ?_).trans ((sb.2 b ?_).trans (j1 b o q))
    · rintro rfl;rw[ha0] at q;cases q
    · rintro rfl;rw[nK] at q;cases q
  have zs:(ks.toArray.zip vs.toArray)=(ks.zip vs).toArray:=by simp
  have zm:((ks.zip vs).map (·.2))=vs:=List.map_snd_zip (by rw[j5.1];exact Nat.le_refl _)
  by_cases h2:vs.toArray.size < 2
  · rw[if_pos h2,if_pos h2]
    refine wpAny_bind (wpAny_pure ?_)
    rw[StateT.run_pure]
    refine wpAny_bind (wpAny_pure ?_)
    refine fin (SortSt.mk' general' (ks.toArray.zip vs.toArray) #[] 7 none) rfl ?_ ?_
    · show ((ks.toArray.zip vs.toArray).map (·.2)).toList.Perm vs
      rw[zs,Array.toList_map,zm]
    · show ((ks.toArray.zip vs.toArray).map (·.2)).toList.Pairwise _
      rw[zs,Array.toList_map,zm]
      match vs,h2 with
      | [],_=>exact List.Pairwise.nil
      | [x],_=>exact List.pairwise_singleton _ _
      | _ :: _ :: _,h2=>simp at h2;omega
  · rw[if_neg h2,if_neg h2]
    have hne:ks≠[]:=by
      intro e
      have:=j5.1
      rw[e] at this
      rw[List.size_toArray,←this] at h2
      simp at h2
    refine wpAny_bind (keyKind_tup (fun v hv=>?_) hne ?_)
    · obtain ⟨i,hi,rfl⟩:=List.getElem_of_mem hv
      have h2:i < vs.length:=by rw[←j5.1];exact hi
      exact ⟨_,_,j5.2 i ks[i] vs[i] (List.getElem?_eq_getElem hi) (List.getElem?_eq_getElem h2)⟩
    · refine wpAny_bind (wpAny_mono (runs_ok (a0:=ks.zip vs) (st:=SortSt.mk' (tuples' true) (ks.toArray.zip vs.toArray) #[] 7 none) (Q:=fun _ v=>(arrOf v).toList.Perm (ks.zip vs)∧(arrOf v).toList.Pairwise (Le (ltT s2.heap))∧failedOf v=none)
        (ltT_cmp _) ltT_pure (fun u hu=>(zip_key j5 hu).2) rfl rfl rfl (by show (ks.toArray.zip vs.toArray).toList=_;rw[zs]) fun v p1 p2 p3=>⟨p1,p2,p3⟩) ?_ fun _ _ e=>e)
      rintro ⟨⟨⟩,v⟩ s3 ⟨rfl,p1,p2,p3⟩
      refine fin v p3 ?_ ?_
      · rw[Array.toList_map]
        have:=p1.map (fun p:Keyed=>p.2)
        rw[zm] at this
        exact this
      · rw[Array.toList_map,List.pairwise_map]
        refine p2.imp_of_mem fun {x y} hx hy e=>?_
        have e1:=(zip_key j5 (p1.mem_iff.mp hx)).1
        have e2:=(zip_key j5 (p1.mem_iff.mp hy)).1
        have e':ltP (keyT s3.heap y.1) (keyT s3.heap x.1)=false:=e
        rw[e1,e2] at e'
        exact e'
end
end L2
set_option Elab.async false
set_option linter.all false
set_option maxRecDepth 100000
namespace L2
open PySem PySem.Spec PyProof.Rows
open PySem.W (Frag)
end L2
set_option Elab.async false
set_option linter.all false
set_option maxRecDepth 100000
namespace L2
open PySem PySem.Spec PyProof.Rows
section
variable {X:Cx}
end
section
variable {X:Cx} {pins:List (Addr×Obj)} {σ:St} {H:Hp} {s:Shared} {a b:Addr} {kvs more:List (Key×V)} {A:Around} {E:Value→Shared→Prop}
end
section
variable {prog:Program} {w:World} {A:Around} {E:Value→Shared→Prop} {s:Shared} {l I S:Addr} {ns:List Int} {vs:List Value} {R:Result→Shared→Prop} {Q:Value→Shared→Prop} {d:Value}
end
section
variable {X:Cx} {e:Expr} {ta:TA} {p p2 pos kpos:Pos}
end
end L2
set_option Elab.async false
set_option linter.all false
set_option maxRecDepth 100000
namespace L2
open PySem PySem.Spec PyProof.Rows
def kfT:Value→Int×List Nat
  | .str x _=>((x.length:Nat),x.cps.toList)
  | _=>(0,[])
abbrev lenBody (x:Str) (p1 p2 p3 p4 p5:Pos) (k:Nat):Expr:=.Tuple [.Call (.Name "len" p1) [.Name x p2] [] p3,.Name x p4] k p5
structure LamSc (scope:Scope) (x:Str):Prop where
  kind:scope.kind=.function
  co:scope.isCoroutine=false
  gen:scope.isGenerator=false
  loc:scope.names.lookup x=some .local
  glb:scope.names.lookup ("len":Str)=some .globalImplicit
  nodbg:(x == ("__debug__":Str))=false
section
variable {prog:Program} {w:World} {A:Around} {s:Shared}
theorem bindL_one (f:Str→Option NameKind) {x:Str} {v:Value} (h:f x=some .local):bindL f [(x,v)] (fun _=>none) x=some v:=by
  unfold bindL bindL
  rw[if_pos h,if_pos rfl]
theorem lam_key {g:Addr} {o:Obj} {name qual x:Str} {params:Arguments} {scope:Scope} {pm cv ctv:Value} {mg mb:Str→Option Value} {vs:List Value} {p1 p2 p3 p4 p5:Pos} {k:Nat}
    (ho:s.heap.get? g=some o) (hod:o.data=.func (PySem.W.kla_fn name qual params (lenBody x p1 p2 p3 p4 p5 k) scope [] pm cv ctv)) (hcd:s.heap.CodeRec cv qual) (S:LamSc scope x)
    (hb:∀ (s:Shared) (u:Value),BindsTo s (PySem.W.kla_fn name qual params (lenBody x p1 p2 p3 p4 p5 k) scope [] pm cv ctv) ⟨[u],[]⟩ [(x,u)]) (hroom:A.depth < recursionLimit) (hlim:s.heap.NoLimit)
    (hg:s.heap.Ns mainGlobals mg) (hgl:mg "len"=none) (hbn:s.heap.Ns builtinsNs mb) (hbb:mb "len"=bootBuiltins "len") (hv:∀ v∈vs,∃ y t,v=.str y t∧y.length≤sizeLine):KeyCall (model prog w) A g vs kfT s:=by
  intro E s' v Q hvm hk hgen hos q
  obtain ⟨y,t,rfl,hy⟩:=hv v hvm
  have hs:sizeLine=16777216:=sizeLine_eq
  refine wpAny_call (PySem.W.kla_callFunE hroom (hk _ _ ho) hod S.co S.gen rfl (let ⟨c,oc,ws,tq,e1,e2,r⟩:=hcd;⟨c,oc,ws,tq,e1,hk _ _ e2,r⟩) (hb _ _ _ _ _ _ ?_))
  refine wpAny_newFunctionEnv_cells S.kind (fun z hz=>.inl (by rw[List.mem_singleton.mp hz];exact S.loc)) fun env he s1 X=>?_
  refine ⟨(hlim.keeps hk).keeps X.toInCall.keep,PySem.W.kla_codeExpr ?_⟩
  subst he
  obtain ⟨h1,tk1,e1⟩:=X.toInCall.same
  have kp1:Kp s'.heap s1.heap:=X.toInCall.keep
  have lnm:∀ (pp:Pos) (B:Around) (E2:Value→Shared→Prop) (s2:Shared) (Q2:Value→Shared→Prop),Kp s1.heap s2.heap→Q2 (.str y t) s2→wpAny (model prog w) B (eval (.Name x pp) (newEnv scope s'.heap.objs.size mainGlobals (cellsFrom (s'.heap.objs.size + 1) scope.names []) (qual++".<locals>.") (some g) cv none builtinsNs)) Q2 E2 s2:=fun pp B E2 s2 Q2 k2 q2=>
    wpAny_Name (wpAny_loadName_local S.kind S.loc (X.toInCall.ns.keeps k2) (by
      exact bindL_one _ S.loc) q2) S.nodbg
  refine wpAny_Tuple_spliced ?_
  show wpAny _ _ (spliced ((false,eval (.Call (.Name "len" p1) [.Name x p2] [] p3) _) :: backTo p5 (starEach [.Name x p4] _))) _ _ s1
  refine Calls.spliced_cons ?_
  refine wpAny_Call_Name_kw (Calls.Name_function_global S.kind S.glb (Calls.loadGlobal_builtin (v:=.builtin "len") (show s1.heap.Ns mainGlobals mg from (hg.keeps hk).keeps kp1) hgl (show s1.heap.Ns builtinsNs mb from (hbn.keeps hk).keeps kp1) (hbb.trans rfl) ?_) (by decide))
  refine PyProof.Rows.callWith_builtin1 ?_ rfl rfl
  show wpAny _ _ (spliced ((false,eval (.Name x p2) _) :: backTo p3 (starEach [] _))) _ _ s1
  refine Calls.spliced_cons (lnm p2 _ _ _ _ (fun _ _ e=>e) (Calls.spliced_nil ?_))
  refine len_str (by omega) ?_
  show wpAny _ _ (spliced ((false,eval (.Name x p4) _) :: backTo p5 (starEach [] _))) _ _ _
  refine Calls.spliced_cons (lnm p4 _ _ _ _ (fun _ _ e=>e) (Calls.spliced_nil ?_))
  refine ⟨by rw[hs];show 2≤16777216;decide,?_⟩
  rw[e1]
  refine q _ _ (fun b o e=>Heap.get?_push_of_some _ (by have:=kp1 b o e;rw[e1] at this;exact this)) rfl rfl ⟨_,_,_,_,_,rfl,Heap.get?_push_size _ rfl,rfl⟩
end
end L2
set_option Elab.async false
set_option linter.all false
set_option maxRecDepth 100000
namespace L2
open PySem PySem.Spec PyProof.Rows
theorem args_sorted_key (a v:Value):argsOk "sorted" ⟨[a],[(Str.ofString "key",v)]⟩:=by unfold argsOk;kernel_rfl
theorem args_list_sort_key (a v:Value):argsOk "list.sort" ⟨[a],[(Str.ofString "key",v)]⟩:=by unfold argsOk;kernel_rfl
section
variable {prog:Program} {w:World} {A:Around} {E:Value→Shared→Prop} {s:Shared}
theorem sorted_keyL {a g:Addr} {its:List Value} {n:Nat} {kf:Value→Int×List Nat} {Q:Value→Shared→Prop} (eo:s.heap.get? a=some (seqObj "list" its.toArray n)) (hc:KeyCall (model prog w) A.in1.in1 g its kf s) (hN:its.length≤sizeLine)
    (h:∀ (s':Shared) (r:Addr) (us:List Value) (e:Nat),s.heap.get? r=none→Kp s.heap s'.heap→s'.gens=s.gens→s'.os=s.os→s'.heap.get? r=some (seqObj "list" us.toArray e)→us.Perm its→us.Pairwise (fun x y=>ltP (kf y) (kf x)=false)→Q (.ref r) s'):
    wpAny (model prog w) A (call (.builtin "sorted") [.ref a] [(Str.ofString "key",.ref g)]) Q E s:=by
  refine call_function_entry_kw kind_sorted plain_sorted entry_sorted (args_sorted_key _ _) ?_
  unfold Builtin.«sorted»
  refine wpAny_bind (m:=checkCount "sorted" 1 1 _) (wpAny_pure ?_)
  refine wpAny_bind (collect_list (PySem.IsL.isList eo) ?_ hN)
  have sb:=Heap.SameBut.update (s.heap.push (seqObj "list" #[] 0)) s.heap.objs.size (Obj.mapSeq (·++its.toArray))
  have k1:Kp s.heap ((s.heap.push (seqObj "list" #[] 0)).update s.heap.objs.size (Obj.mapSeq (·++its.toArray))):=fun b o e=>(sb.2 b (Nat.ne_of_lt (Heap.lt_size e))).trans (Heap.get?_push_of_some _ e)
  generalize ((s.heap.push (seqObj "list" #[] 0)).update s.heap.objs.size (Obj.mapSeq (·++its.toArray)))=g1 at k1 ⊢
  have nw:s.heap.get? g1.objs.size=none:=by
    cases z:s.heap.get? g1.objs.size with
    | none=>rfl
    | some o=>exact absurd (Heap.lt_size (k1 _ _ z)) (Nat.lt_irrefl _)
  refine wpAny_bind (wpAny_newList ?_ hN)
  have hoL:(g1.push (seqObj "list" its.toArray 0)).get? g1.objs.size=some (seqObj "list" its.toArray 0):=Heap.get?_push_size _ rfl
  refine wpAny_bind (wpAny_holding (wpAny_call_entry_kw slot_list_sort ⟨_,hoL,rfl⟩ entry_list_sort (sort_keyed (s0:=s) hc (fun b o e=>Heap.get?_push_of_some _ (k1 b o e)) rfl rfl nw hoL hN fun s' us e k2 e1 e2 e3 e4 e5=>⟨_,rfl,?_⟩) (args_list_sort_key _ _)))
  exact wpAny_pure ⟨_,rfl,h s' _ us e nw k2 e1 e2 e3 e4 e5⟩
end
end L2
set_option Elab.async false
set_option linter.all false
set_option maxRecDepth 100000
namespace L2
open PySem PySem.Spec PyProof.Rows PySem.W
def isTbl:HO→Bool
  | .tbl _=>true
  | _=>false
def SameL (H H':Hp):Prop:=∀ b o,H b=some o→isTbl o=false→H' b=some o
theorem SameL.refl (H:Hp):SameL H H:=fun _ _ e _=>e
theorem SameL.trans {H H1 H2:Hp} (a:SameL H H1) (b:SameL H1 H2):SameL H H2:=fun c o e n=>b c o (a c o e n) n
theorem Same.l {H H':Hp} (s:Same H H'):SameL H H':=fun b o e _=>s b o e
def CodeO (c:Addr) (q:Str):HO:=.ext fun h=>h.CodeRec (.ref c) q
theorem codeO_ok {P:Program} {w:World} {H:Hp} {h:Heap} {c:Addr} {q:Str} (x:h.CodeRec (.ref c) q):ObjOk P w H h c (CodeO c q):=by
  obtain ⟨c',o,vs,t,e,e1,r⟩:=id x
  cases e
  refine ⟨x,⟨o,e1⟩,fun h1 h2 x1 k=>?_⟩
  obtain ⟨c',o,vs,t,e,e1,r⟩:=x1
  cases e
  exact ⟨c,o,vs,t,rfl,k _ e1,r⟩
def TblOk (H:Hp) (P:Addr) (pos:Pos) (q:Str):Prop:=∃ ps,H P=some (.tbl ps)∧TriplesOk ps.toList∧(codeAmong pos ps.toList=none∨∃ c,codeAmong pos ps.toList=some (.ref c)∧H c=some (CodeO c q))
theorem TblOk.same {H H':Hp} {P:Addr} {pos:Pos} {q:Str} (t:TblOk H P pos q) (s:Same H H'):TblOk H' P pos q:=by
  obtain ⟨ps,e,tr,h⟩:=t
  exact ⟨ps,s _ _ e,tr,h.imp id fun ⟨c,e1,e2⟩=>⟨c,e1,s _ _ e2⟩⟩
theorem tbl_new {P:Addr} {pos:Pos} {q:Str} {H:Hp} (h:H P=some (.tbl #[])):TblOk H P pos q:=⟨#[],h,trivial,.inl rfl⟩
structure LamEnv (base:Heap) (mg:Str→Option Value) (c P:Addr):Prop where
  hd:CodeHd base c P
  bm:base.BuiltinsAt mg P
section
variable {X:Cx} {pins:List (Addr×Obj)} {σ:St} {H:Hp} {s:Shared}
theorem Inv.table {P c':Addr} {ps more:Array Value} {q:Str} {h':Heap} {t':Nat} (I:Inv X pins σ H s) (hP:H P=some (.tbl ps)) (hx:Heap.ExtBut P s.heap h') (hc:s.heap.objs.size≤c') (hr:h'.CodeRec (.ref c') q) (ht:h'.get? P=some (tabObj (ps++more))):
    Inv X pins σ (upd (upd H P (.tbl (ps++more))) c' (CodeO c' q)) { s with heap:=h',toks:=t' }:=by
  have fc:H c'=none:=I.hok.fresh hc
  have nPc:P≠c':=ne_of_none hP fc
  have nt:∀ {b u},H b=some u→(∀ ps,u≠.tbl ps)→b≠P:=fun e n z=>by rw[z,hP] at e;exact n _ (Option.some.inj e).symm
  have nc:∀ {b u},H b=some u→b≠c':=fun e=>ne_of_none e fc
  have hz:∀ {b o},s.heap.get? b=some o→b≠c':=fun e z=>absurd (Heap.lt_size e) (by rw[z];exact Nat.not_lt.mpr hc)
  have nn:∀ {b},H b=none→b≠P:=fun e z=>by rw[z,hP] at e;cases e
  refine I.call' (s':={ s with heap:=h',toks:=t' }) (ch:=[]) rfl ⟨fun b o e n _ _=>hx b o (nn n) e,fun b o e n _ _=>⟨o.slots,hx b o (nn n) e⟩,fun b o e n _=>?_,fun b o e _=>?_,fun b xs e=>?_,fun b o u e=>?_,fun b qs e=>?_⟩ (fun b u e=>?_) I.bare (fun b z=>by cases z)
  · rw[upd_ne (hz e),upd_ne (nn n)];exact n
  · by_cases z:b=P
    · exact ⟨_,by rw[z];exact ht⟩
    · exact ⟨o,hx b o z e⟩
  · rw[upd_ne (nc e),upd_ne (nt e fun _ z=>by cases z)];exact e
  · rw[upd_ne (nc e),upd_ne (nt e fun _ z=>by cases z)];exact e
  · by_cases z:b=P
    · subst z
      rw[hP] at e;cases e
      exact ⟨more,by rw[upd_ne nPc,upd_same]⟩
    · exact ⟨#[],by rw[upd_ne (nc e),upd_ne z,e];simp⟩
  · by_cases z1:b=c'
    · subst z1
      rw[upd_same] at e;cases e
      exact codeO_ok hr
    · rw[upd_ne z1] at e
      by_cases z2:b=P
      · subst z2
        rw[upd_same] at e;cases e
        exact ht
      · rw[upd_ne z2] at e
        refine (I.hok b u e).stay (fun d v hd k=>?_) (fun d k=>?_) fun d xs k=>?_
        · refine hx d v ?_ k
          rcases hd with rfl | hd
          · exact z2
          · exact nt hd fun _ z=>by cases z
        · rw[upd_ne (nc k),upd_ne (nt k fun _ z=>by cases z)];exact k
        · rw[upd_ne (nc k),upd_ne (nt k fun _ z=>by cases z)];exact k
theorem lam_make {Q:Value→Shared→Prop} {E:Value→Shared→Prop} {c P:Addr} {pos:Pos} {params:Arguments} {body:Expr} {scope:Scope} {q:Str} (I:Inv X pins σ H s) (L:LamEnv X.base X.mg c P) (hcode:X.env.code=.ref c) (hcl:closureFor scope X.env=pure []) (hdef:defaultsOf params X.env=([],[]))
    (hq:X.env.qual++"<lambda>"=q) (T:TblOk H P pos q)
    (h:∀ (g:Addr) (H1:Hp) (s1:Shared) (cv ctv pm:Value),SameL H H1→TblOk H1 P pos q→(∀ b,H1 b=none→H b=none)→Inv X pins σ H1 s1→s1.heap.get? g=some { cls:=.type "function",data:=.func (kla_fn "<lambda>" q params body scope [] pm cv ctv) }→s1.heap.CodeRec cv q→Q (.ref g) s1):
    wpAny (model X.prog X.w) X.A (eval (.Lambda params body scope pos) X.env) Q E s:=by
  obtain ⟨ps,hP,tr,hc⟩:=T
  have gP:s.heap.get? P=some (tabObj ps):=I.hok P _ hP
  have C:CodeHd s.heap c P:=L.hd.keeps I.bk
  have hg:s.heap.Ns mainGlobals X.mg:=I.mod.glob.keeps I.bk
  have hgP:mainGlobals≠P:=fun z=>by
    obtain ⟨o,es,ep,e,hd,_⟩:=hg
    rw[z,gP] at e;cases e;cases hd
  have hbm:s.heap.BuiltinsAt X.mg P:=let ⟨bm,o,a1,a2,a3,a4,a5,r⟩:=L.bm;⟨bm,o,a1,a2,a3,a4,I.bk _ _ a5,r⟩
  refine kla_eval hdef ?_
  rw[hq]
  rcases hc with hn | ⟨c',hf,hc'⟩
  · refine kla_makeFunction hcl I.ok.glob hg hcode C gP tr hn hgP hbm fun c' ctv h' tk hx hge hlt hrec htab=>?_
    have fc:H c'=none:=I.hok.fresh hge
    have J:=I.table (t':=tk) hP hx hge hrec htab
    have nPc:P≠c':=ne_of_none hP fc
    have el:(ps++#[rawInt pos.line,rawInt pos.col,Value.ref c']).toList=ps.toList++[rawInt pos.line,rawInt pos.col,.ref c']:=by simp
    refine h _ _ _ (.ref c') ctv _ (fun b o e n=>?_) ⟨_,by rw[upd_ne nPc,upd_same],by rw[el];exact TriplesOk_snoc _ _ _ _ tr,.inr ⟨c',by rw[el];exact codeAmong_snoc _ tr hn,upd_same⟩⟩ (fun b e=>?_) (J.kept (t':=tk) fun b o e=>Heap.get?_push_of_some _ e) (Heap.get?_push_size _ rfl) (hrec.push _)
    · rw[upd_ne (ne_of_none e fc),upd_ne (fun z=>by rw[z,hP] at e;cases e;cases n)];exact e
    · by_cases z1:b=c'
      · rw[z1];exact fc
      · rw[upd_ne z1] at e
        by_cases z2:b=P
        · rw[z2,upd_same] at e;cases e
        · rw[upd_ne z2] at e;exact e
  · refine kla_makeFunctionHit hcl I.ok.glob hg hcode C gP tr hf hbm fun ctv h' tk hk hsz=>?_
    have hrec:s.heap.CodeRec (.ref c') q:=(I.hok c' _ hc').1
    exact h _ H _ (.ref c') ctv _ (SameL.refl _) ⟨ps,hP,tr,.inr ⟨c',hf,hc'⟩⟩ (fun b e=>e) (I.kept (t':=tk) fun b o e=>Heap.get?_push_of_some _ (hk b o e)) (Heap.get?_push_size _ rfl) ((hrec.keeps hk).push _)
end
theorem bt_sortedL:bootBuiltins "sorted"=some (.builtin "sorted"):=rfl
def txV:Value→List Nat
  | .str x _=>x.cps.toList
  | _=>[]
theorem vals_tx:∀ {ws:List (List Nat)} {us:List Value},Vals (ws.map tx) us→ws=us.map txV∧(∀ v∈us,∃ y t,v=.str y t∧y.length=(txV v).length)
  | [],_,.nil=>⟨rfl,fun v hv=>by cases hv⟩
  | w :: ws,_,.cons ⟨t,e⟩ r=>by
    obtain ⟨h1,h2⟩:=vals_tx (ws:=ws) r
    subst e
    refine ⟨by rw[List.map_cons,←h1];simp [txV],fun v hv=>?_⟩
    rcases List.mem_cons.mp hv with rfl | hv
    · exact ⟨_,t,rfl,by simp [txV,Str.length]⟩
    · exact h2 v hv
theorem vals_of_tx:∀ (us:List Value),(∀ v∈us,∃ y t,v=.str y t)→Vals ((us.map txV).map tx) us
  | [],_=>.nil
  | v :: us,h=>by
    obtain ⟨y,t,rfl⟩:=h v List.mem_cons_self
    exact .cons ⟨t,by simp [txV]⟩ (vals_of_tx us fun u hu=>h u (List.mem_cons_of_mem _ hu))
def tSortK (P:Addr) (lpos:Pos) (q:Str) (ta:TA):TE:=fun σ H Q=>ta σ H fun vs H1=>∃ (a:Addr) (ws:List (List Nat)),vs=[.ref a]∧H1 a=some (.lst (ws.map tx))∧(∀ w∈ws,w.length≤sizeLine)∧TblOk H1 P lpos q ∧
  ∀ (ws':List (List Nat)) (r:Addr) (H2:Hp),ws'.Perm ws→ws'.Pairwise (fun a b=>¬ BefW b a)→SameL H1 H2→TblOk H2 P lpos q→H1 r=none→H2 r=some (.lst (ws'.map tx))→Q (.ref r) H2
theorem ltP_bef {a b:List Nat}:ltP ((b.length:Nat),b) ((a.length:Nat),a)=false↔¬ BefW b a:=by
  rw[Bool.eq_false_iff,Ne,ltP_iff]
  unfold BefW
  dsimp only
  have e1:((b.length:Int) < (a.length:Int))↔b.length < a.length:=by omega
  have e2:((b.length:Int)=(a.length:Int))↔b.length=a.length:=by omega
  rw[e1,e2]
section
variable {X:Cx} {e:Expr} {ta:TA} {p pos kpos lpos p1 p2 p3 p4 p5:Pos} {k kk:Nat} {c P:Addr} {params:Arguments} {scope:Scope} {x q:Str}
theorem pe_sortK (hr:Room k X.A) (L:LamEnv X.base X.mg c P) (hcode:X.env.code=.ref c) (hg:Gl X "sorted") (hm:X.mg "sorted"=none) (hlen:X.mg "len"=none) (ha:PA X [e] ta) (hcl:closureFor scope X.env=pure []) (hdef:defaultsOf params X.env=([],[])) (hq:X.env.qual++"<lambda>"=q)
    (S:LamSc scope x) (hb:∀ (s:Shared) (u pm cv ctv:Value),BindsTo s (kla_fn "<lambda>" q params (lenBody x p1 p2 p3 p4 p5 kk) scope [] pm cv ctv) ⟨[u],[]⟩ [(x,u)])
    (he:backTo pos (starEach [e] X.env)=(false,eval e X.env) :: backTo pos (starEach [] X.env):=by rfl) (hpl:(backTo pos (starEach [e] X.env)).any (·.1)=false:=by rfl):
    PE X (.Call (.Name "sorted" p) [e] [⟨some "key",.Lambda params (lenBody x p1 p2 p3 p4 p5 kk) scope lpos,kpos⟩] pos) (tSortK P lpos q ta):=by
  intro pins s σ H Q I h
  refine wpAny_Call_Name_kw (ld_blt I hg hm bt_sortedL ?_)
  refine PyProof.Rows.callWith_kw (thn (ha pos pins s σ H _ I h) fun us s1 ⟨vs,H1,I1,r1,q1⟩=>?_) he hpl
  obtain ⟨a,ws,rfl,hH,hw,T,q⟩:=q1
  show wpAny _ _ (evalAll ((do let v ←eval (.Lambda params (lenBody x p1 p2 p3 p4 p5 kk) scope lpos) X.env;standAt pos;pure v) :: [])) _ _ s1
  refine wpAny_evalAll_cons (wpAny_bind (lam_make I1 L hcode hcl hdef hq T fun g H2 s2 cv ctv pm sl T2 fr I2 ho hcd=>wpAny_bind (wpAny_standAt (wpAny_pure (wpAny_evalAll_nil ?_)))))
  obtain ⟨u,rfl,ru⟩:=r1.one
  cases ru
  have hH2:=sl _ _ hH rfl
  obtain ⟨hz,its,n,r,hlen',eo⟩:=I2.lstM hH2
  obtain ⟨ew,hs⟩:=vals_tx r
  have hN:its.length≤sizeLine:=by rw[←r.length];exact hz
  obtain ⟨mb,b1,b2⟩:=I2.mod.blt
  have key:=lam_key (prog:=X.prog) (w:=X.w) (A:=X.A.in1.in1) (vs:=its) ho rfl hcd S (fun s u=>hb s u pm cv ctv) (show X.A.depth < recursionLimit by have:=hr.dp;omega) (I2.mod.nolimit.keeps I2.bk) (I2.mod.glob.keeps I2.bk) hlen (b1.keeps I2.bk) (b2 _ (by decide)) (fun v hv=>by
    obtain ⟨y,t,e1,e2⟩:=hs v hv
    exact ⟨y,t,e1,by rw[e2];exact hw _ (by rw[ew];exact List.mem_map_of_mem hv)⟩)
  refine sorted_keyL eo key hN fun s' r' us e nr kp g1 o1 er pm2 pw=>?_
  have hs2:∀ v∈us,∃ y t,v=.str y t∧y.length=(txV v).length:=fun v hv=>hs v (pm2.mem_iff.mp hv)
  have rv:Vals ((us.map txV).map tx) us:=vals_of_tx us fun v hv=>let ⟨y,t,e,_⟩:=hs2 v hv;⟨y,t,e⟩
  have hl2:us.length=its.length:=pm2.length_eq
  have fr':H1 r'=none:=fr _ (I2.hok.none_of nr)
  have J:=I2.laid2 (s':=s') (a:=r') (o:=.lst ((us.map txV).map tx)) o1 g1 kp nr ⟨by rw[List.length_map,List.length_map];omega,us,e,rv,er⟩
  have hr2:=I2.hok.none_of nr
  refine ⟨.ref r',_,J,rfl,q (us.map txV) r' _ (by rw[ew];exact pm2.map _) ?_ (fun b o eb nb=>by rw[upd_ne (ne_of_none (sl b o eb nb) hr2)];exact sl b o eb nb) (T2.same (same_upd hr2)) fr' upd_same⟩
  rw[List.pairwise_map]
  refine pw.imp_of_mem fun {y z} hy hz e=>?_
  rw[←ltP_bef]
  obtain ⟨y1,t1,e1,e2⟩:=hs2 y hy
  obtain ⟨z1,t2,e3,e4⟩:=hs2 z hz
  subst e1 e3
  have f1:kfT (.str y1 t1)=((((txV (.str y1 t1)).length:Nat):Int),txV (.str y1 t1)):=by rw[←e2];rfl
  have f2:kfT (.str z1 t2)=((((txV (.str z1 t2)).length:Nat):Int),txV (.str z1 t2)):=by rw[←e4];rfl
  rw[f1,f2] at e
  exact e
end
end L2
set_option Elab.async false
set_option linter.all false
set_option maxRecDepth 100000
namespace L2
open PySem PySem.Spec PyProof.Rows PySem.W
def isTab (o:Obj):Bool:=match o.cls,o.data with
  | .none,.fields _=>true
  | _,_=>false
def noTab (K:Frag):Bool:=K.all fun p=>!isTab p.2
theorem noTab_lookup {K:Frag} (h:noTab K=true) {b:Addr} {o:Obj} (e:K.lookup b=some o):isTab o=false:=by
  unfold noTab at h
  rw[List.all_eq_true] at h
  have:∀ (l:List (Addr×Obj)),l.lookup b=some o→(b,o)∈l:=fun l=>by
    induction l with
    | nil=>intro e;cases e
    | cons q r ih=>
      intro e
      obtain ⟨b',o'⟩:=q
      rw[List.lookup_cons] at e
      by_cases z:b=b'
      · subst z
        simp at e
        subst e
        exact List.mem_cons_self
      · have z':(b == b')=false:=by simpa using z
        rw[z'] at e
        exact List.mem_cons_of_mem _ (ih e)
  have:=h _ (this K e)
  simpa using this
structure TabOf (mg:Str→Option Value) (h:Heap) (n:Str) (c P:Addr):Prop where
  fn:∃ a o fd,mg n=some (.ref a)∧h.get? a=some o∧o.data=.func fd∧fd.code=.ref c
  code:h.IsCode c P #[]
  tab:h.TableAt c P #[]
theorem TabOf.codeEq {mg:Str→Option Value} {h:Heap} {n:Str} {c P a:Addr} {o:Obj} {fd:FuncData} (t:TabOf mg h n c P) (e1:mg n=some (.ref a)) (e2:h.get? a=some o) (e3:o.data=.func fd):fd.code=.ref c:=by
  obtain ⟨a',o',fd',f1,f2,f3,f4⟩:=t.fn
  rw[e1] at f1;cases f1
  rw[e2] at f2;cases f2
  rw[e3] at f3;cases f3
  exact f4
theorem law_callT {P:Program} {w:World} {K:PySem.W.Frag} {mg mb:Str→Option Value} {CX:CXT} {k:Nat} {fa a:Addr} {fd:FuncData} {x:Str} {sp:Sp} {s₁:Shared} {vs:List Value} {ns:List Int} {nms:List Str} {tb:Str→Addr×Addr}
    (KX:K.In s₁.heap) (hns:s₁.heap.Ns mainGlobals mg) (hb:s₁.heap.Ns builtinsNs mb) (hbb:∀ x:Str,x≠"__name__"→mb x=bootBuiltins x) (hlim:s₁.heap.NoLimit) (hg:s₁.gens=#[])
    (ha:s₁.heap.get? a=some { cls:=.type "list",data:=.seq vs.toArray }) (hi:IntsAre vs ns) (hl:ns.length≤sizeLine) (hr:Room k callerA)
    (hT:∀ n∈nms,TabOf mg s₁.heap n (tb n).1 (tb n).2) (hKt:noTab K=true) (hbm:∃ bm ob,mg "__builtins__"=some (.ref bm)∧bm≠builtinsNs∧s₁.heap.get? bm=some ob∧ob.cls=.type "module"∧ob.dict=some builtinsNs∧ob.data=.plain)
    (F:∀ base:Heap,K.In base→base.Ns mainGlobals mg→(∀ n∈nms,LamEnv base mg (tb n).1 (tb n).2)→FnOk P w K mg base CX k fa fd [x] sp) (hbind:∀ (s:Shared) (u:Value),BindsTo s fd ⟨[u],[]⟩ [(x,u)])
    (hsp:∀ H:Hp,(∀ n∈nms,H (tb n).2=some (.tbl #[]))→SqL K H a (ns.map V.int)→sp [.ref a] H (fun v _=>v=.bl true) fun _ _ _=>False)
    (hCX:∀ H e s',CX [] H s₁ (fun _ _ _=>False) e s'→False):
    codeAny (model P w) callerA (.call (.ref fa) ⟨[.ref a],[]⟩) (fun r s'=>r=.ok (.ret (.bool true))∧OldK s₁.heap s'.heap∧s'.os=s₁.os∧AllBare s'.gens) s₁:=by
  have rv:=vals_ints hi
  have lenV:=hi.length
  have hta:∀ n∈nms,s₁.heap.get? (tb n).2=some (tabObj #[]):=fun n hn=>(hT n hn).tab.2
  have aP:∀ n∈nms,(tb n).2≠a:=fun n hn z=>by
    have e:=hta n hn
    rw[z,ha] at e
    have:=congrArg Obj.cls (Option.some.inj e)
    exact absurd (show Value.type "list"=Value.none from this) (by simp)
  let isP:Addr→Prop:=fun b=>∃ n∈nms,(tb n).2=b
  have core:∀ H:Hp,SqL K H a (ns.map V.int)→HOk P w H s₁.heap→(∀ b,H b≠none→(b=a∧∃ o xs,H b=some (.frz o (.lst xs)))∨(isP b∧H b=some (.tbl #[])))→(∀ b,isP b→H b=some (.tbl #[]))→(H a≠none→K.lookup a=none) →
      codeAny (model P w) callerA (.call (.ref fa) ⟨[.ref a],[]⟩) (fun r s'=>r=.ok (.ret (.bool true))∧OldK s₁.heap s'.heap∧s'.os=s₁.os∧AllBare s'.gens) s₁:=by
    intro H hS hok hA hPt hK
    have base_of:∀ {b:Addr} {o:Obj},s₁.heap.get? b=some o→H b=none→(hidT s₁.heap H).get? b=some o:=fun e n=>hidT_get e n
    have noT:∀ {b:Addr} {o:Obj},s₁.heap.get? b=some o→o≠tabObj #[]→o.cls≠.type "list"→H b=none:=fun {b o} e n1 n2=>by
      cases q:H b with
      | none=>rfl
      | some u=>
        rcases hA b (by rw[q];simp) with ⟨e',_⟩ | ⟨⟨n,hn,e'⟩,_⟩
        · subst e'
          rw[ha] at e;cases e
          exact absurd rfl n2
        · subst e'
          rw[hta n hn] at e;cases e
          exact absurd rfl n1
    have noA:∀ {b:Addr} {o:Obj} {es:Array DictEntry} {ep:Nat},s₁.heap.get? b=some o→o.data=.dict es ep→H b=none:=fun {b o es ep} e d=>by
      cases q:H b with
      | none=>rfl
      | some u=>
        rcases hA b (by rw[q];simp) with ⟨e',_⟩ | ⟨⟨n,hn,e'⟩,_⟩
        · subst e'
          rw[ha] at e;cases e
          have d':Data.seq vs.toArray _=Data.dict es ep:=d
          cases d'
        · subst e'
          rw[hta n hn] at e;cases e
          cases d
    have nsK:∀ {b:Addr} {m:Str→Option Value},s₁.heap.Ns b m→(hidT s₁.heap H).Ns b m:=fun {b m} ⟨o,es,ep,e,d,r⟩=>⟨o,es,ep,base_of e (noA e d),d,r⟩
    have hKb:K.In (hidT s₁.heap H):=fun b o e=>base_of (KX b o e) (by
      cases q:H b with
      | none=>rfl
      | some u=>
        rcases hA b (by rw[q];simp) with ⟨e',_⟩ | ⟨⟨n,hn,e'⟩,_⟩
        · subst e'
          rw[hK (by rw[q];simp)] at e;cases e
        · subst e'
          have e1:=KX _ _ e
          rw[hta n hn] at e1
          have e2:=noTab_lookup hKt e
          rw[←Option.some.inj e1] at e2
          cases e2)
    have hM:Mod K mg (hidT s₁.heap H):=⟨hKb,nsK hns,⟨mb,nsK hb,hbb⟩,let ⟨mc,h1,h2⟩:=hlim;⟨mc,nsK h1,h2⟩⟩
    have e0:Env0 P w K mg (hidT s₁.heap H) callerA [] s₁ H:=⟨rfl,hM,fun b o e=>of_hidT e,Nat.le_of_eq (hidT_size _ _),trivial,fun b hb=>absurd (show b∈([]:List Addr) from hb) (by simp),hok,.of_eq hg⟩
    have hL:∀ n∈nms,LamEnv (hidT s₁.heap H) mg (tb n).1 (tb n).2:=fun n hn=>by
      obtain ⟨bm,ob,b1,b2,b3,b4,b5,b6⟩:=hbm
      obtain ⟨oc,vc,file,tf,flags,tg,inF,text,tt,c1,c2,c3,r⟩:=CodeHd.of (hT n hn).code (hT n hn).tab
      refine ⟨⟨oc,vc,file,tf,flags,tg,inF,text,tt,base_of c1 (noT c1 (fun z=>by rw[z] at c2;cases c2) (fun z=>by rw[c2] at z;exact absurd z (by decide))),c2,c3,r⟩,bm,ob,b1,b2,fun z=>?_,fun z=>?_,base_of b3 (noT b3 (fun z=>by rw[z] at b4;cases b4) (fun z=>by rw[b4] at z;exact absurd z (by decide))),b4,b5,b6⟩
      · obtain ⟨o,es,ep,e,d,_⟩:=hns
        rw[←z,b3] at e;cases e
        rw[b6] at d;cases d
      · rw[z,hta n hn] at b3;cases b3
        cases b4
    refine codeAny_mono ((F _ hKb (nsK hns) hL).run callerA [] s₁ H ⟨[.ref a],[]⟩ [.ref a] [.ref a] _ _ hr e0 (hbind s₁ (.ref a)) (.cons rfl .nil) (hsp H (fun n hn=>hPt _ ⟨n,hn,rfl⟩) hS)) fun r s' h=>?_
    cases r with
    | error e=>exact (hCX H e s' h).elim
    | ok fl=>
      cases fl with
      | next=>exact False.elim h
      | brk=>exact False.elim h
      | cont=>exact False.elim h
      | ret u=>
        obtain ⟨v,H',os,bare,un,hok',r',q⟩:=h
        have q':v=.bl true:=q
        subst q'
        obtain rfl:u=Value.bool true:=r'
        refine ⟨rfl,⟨fun b o e=>?_,fun b o e=>un.there b o e (by simp)⟩,os,bare⟩
        cases q:H b with
        | none=>exact .inl (un.keep b o e q (by intro z;exact absurd (show b∈([]:List Addr) from z) (by simp)) (by simp))
        | some u=>
          rcases hA b (by rw[q];simp) with ⟨_,ob,xs,z⟩ | ⟨⟨n,hn,e'⟩,z⟩
          · have z2:=un.frzs b ob _ z
            obtain ⟨e1,_⟩:=hok b _ z
            obtain ⟨e2,_⟩:=hok' b _ z2
            rw[e] at e1;cases e1
            exact .inl e2
          · obtain ⟨more,z2⟩:=un.tbls b _ z
            have e1:s₁.heap.get? b=some (tabObj #[]):=hok b _ z
            have e2:s'.heap.get? b=some (tabObj (#[]++more)):=hok' b _ z2
            rw[e] at e1;cases e1
            exact .inr (.inl ⟨by rw[←e'];exact (hT n hn).tab.isCodeTable,rfl,#[],more,rfl,e2⟩)
  cases hk:K.lookup a with
  | some o=>
    have e:=KX a o hk
    rw[ha] at e
    cases e
    haveI:DecidablePred isP:=fun _=>Classical.propDecidable _
    refine core (fun b=>if isP b then some (.tbl #[]) else none) (.inr ⟨_,vs.toArray,_,hk,rfl,rfl,rfl,by rw[List.size_toArray,lenV];exact hl,by simpa using rv⟩) (fun b u z=>?_) (fun b z=>?_) (fun b hb=>if_pos hb) fun z=>?_
    · by_cases hb:isP b
      · have z':=(if_pos hb).symm.trans z
        cases z'
        obtain ⟨n,hn,rfl⟩:=hb
        exact hta n hn
      · have z':=(if_neg hb).symm.trans z
        cases z'
    · by_cases hb:isP b
      · exact .inr ⟨hb,if_pos hb⟩
      · exact absurd (if_neg hb) z
    · have:¬ isP a:=fun ⟨n,hn,e⟩=>aP n hn e
      exact absurd (if_neg this) z
  | none=>
    haveI:DecidablePred isP:=fun _=>Classical.propDecidable _
    refine core (fun b=>if b=a then some (.frz { cls:=.type "list",data:=.seq vs.toArray } (.lst (ns.map V.int))) else if isP b then some (.tbl #[]) else none) (.inl (.inr ⟨{ cls:=.type "list",data:=.seq vs.toArray },if_pos rfl⟩)) (fun b u z=>?_) (fun b z=>?_) (fun b hb=>?_) fun _=>hk
    · by_cases hb:b=a
      · have z':=(if_pos hb).symm.trans z
        cases z'
        subst hb
        exact ⟨ha,by rw[List.length_map];exact hl,vs,_,rv,ha⟩
      · have z':=(if_neg hb).symm.trans z
        by_cases hp:isP b
        · have z2:=(if_pos hp).symm.trans z'
          cases z2
          obtain ⟨n,hn,rfl⟩:=hp
          exact hta n hn
        · have z2:=(if_neg hp).symm.trans z'
          cases z2
    · by_cases hb:b=a
      · exact .inl ⟨hb,_,_,if_pos hb⟩
      · by_cases hp:isP b
        · exact .inr ⟨hp,by rw[if_neg hb,if_pos hp]⟩
        · exact absurd (by rw[if_neg hb,if_neg hp]) z
    · have nb:b≠a:=by obtain ⟨n,hn,rfl⟩:=hb;exact aP n hn
      rw[if_neg nb,if_pos hb]
theorem walk_ofT {l:PySem.W.OpenLaw} {n k:Nat} {q:Program} {loose:List Str} {XP:(Str→Option Value)→Heap→Prop} {YP:World→Heap→Prop} {d:DefRec} {K:Params→PySem.W.Frag} {CX:CXT} {sp:PySem.W.Frag→(Str→Addr×Addr)→Sp} {x:Str} (nms:List Str)
    (hn:l.most=some n) (hn2:n≤sizeLine) (hdf:d.params.defaults=[]) (hr:Room k callerA)
    (hY:∀ (w:World) (h:Heap),YP w h→(K w.params).In h) (hKt:∀ P:Params,noTab (K P)=true) (hnm:(nms.all fun n=>(recsOf q).any fun e=>e.name == n)=true)
    (F:∀ (w:World) (mg:Str→Option Value) (fa:Addr) (h:Heap) (tb:Str→Addr×Addr),(K w.params).In h→h.Ns mainGlobals mg→mg d.name=some (.ref fa)→(∀ n∈nms,TabOf mg h n (tb n).1 (tb n).2) →
      ∃ fd:FuncData,(∀ (s:Shared) (u:Value),BindsTo s fd ⟨[u],[]⟩ [(x,u)]) ∧
        ∀ base:Heap,(K w.params).In base→base.Ns mainGlobals mg→(∀ n∈nms,LamEnv base mg (tb n).1 (tb n).2)→FnOk l.prog w (K w.params) mg base CX k fa fd [x] (sp (K w.params) tb))
    (hsp:∀ (K:PySem.W.Frag) (tb:Str→Addr×Addr) (H:Hp) (a:Addr) (ns:List Int),ns.length≤n→(∀ n∈nms,H (tb n).2=some (.tbl #[]))→SqL K H a (ns.map V.int)→sp K tb [.ref a] H (fun v _=>v=.bl true) fun _ _ _=>False)
    (hCX:∀ (H:Hp) (s:Shared) (e:Value) (s':Shared),CX [] H s (fun _ _ _=>False) e s'→False):
    PySem.W.WalkO q loose XP YP l.row.toRowW d [] (fun f vs=>PySem.call f vs):=by
  refine Att.attach_call hn hdf fun w s₀ s₁ mg mb fa o pm cd doc a vs ns G Y ho hd hcd hmg hobj hints hlen hg=>?_
  have KX:=hY w _ Y
  have ex:∀ n:Str,∃ cp:Addr×Addr,n∈nms→TabOf mg s₁.heap n cp.1 cp.2:=fun n=>by
    by_cases h:n∈nms
    · rw[List.all_eq_true] at hnm
      have:=hnm n h
      rw[List.any_eq_true] at this
      obtain ⟨e,he,en⟩:=this
      have en:e.name=n:=by simpa using en
      obtain ⟨a',o',fd',c,P,h1,h2,h3,h4,h5,h6⟩:=G.T.tab e he
      exact ⟨(c,P),fun _=>⟨⟨a',o',fd',by rw[←en];exact h1,h2,h3,h4⟩,h5,h6⟩⟩
    · exact ⟨(0,0),fun z=>absurd z h⟩
  obtain ⟨tb,htb⟩:=Classical.skolem.mp ex
  obtain ⟨fd,hb,hF⟩:=F w mg fa _ tb KX G.T.g hmg htb
  exact law_callT KX G.T.g G.T.b G.T.builtins G.T.nolimit hg hobj hints (Nat.le_trans hlen hn2) hr htb (hKt _) G.T.bmain hF hb (fun H hP hS=>hsp (K w.params) tb H a ns hlen hP hS) fun H e s'=>hCX H s₁ e s'
end L2
set_option Elab.async false
set_option linter.all false
set_option maxRecDepth 100000
namespace L2
open PySem PySem.Spec PyProof.Rows PySem.W
section
variable {P:Program} {w:World} {K:PySem.W.Frag} {mg:Str→Option Value} {base:Heap}
theorem Fun.okC {x qual:Str} {st:Stmt} {f:Addr} {fd:FuncData} {N ps:List Str} {k:Nat} {sp:Sp} {c:Value} (F:Fun K x qual st f fd) (hc:fd.code=c) (S:FnScope N ps (defScope st)) (len:∀ vs H Q E,sp vs H Q E→vs.length=ps.length)
    (body:∀ (A:Around) (outer:List Env) (s:Shared) (H:Hp) (vs:List V) (Q:VK) (E:XK),Room k (A.deeper (envOfC qual (defScope st) s.heap.objs.size f c))→sp vs H Q E →
      ∃ t,PSs (cxOf CX0 P w K mg base N qual (defScope st) f c A outer s H E).nox (defBody st) t∧t { nx:=fun _ H'=>Q .non H',rt:=Q } (start N vs) H):FnOk P w K mg base CX0 (k + 1) f fd ps sp:=by
  obtain ⟨⟨oc,od,kV,doc,pm,an,cdv,ct,osl,rfl,l,cc⟩,_⟩:=F
  obtain rfl:cdv=c:=hc
  refine fn_of l cc S len fun A outer s H vs Q E hr hsp=>?_
  obtain ⟨t,h,q⟩:=body A outer s H vs Q E hr hsp
  exact ⟨t,h.nox,q⟩
theorem Fun.at {x qual:Str} {st:Stmt} {f:Addr} {fd:FuncData} {h:Heap} (F:Fun K x qual st f fd) (KX:K.In h):∃ o,h.get? f=some o∧o.data=.func fd:=by
  obtain ⟨⟨oc,od,kV,doc,pm,an,cdv,ct,osl,rfl,l,cc⟩,_⟩:=F
  exact ⟨_,KX _ _ l,rfl⟩
end
end L2
set_option Elab.async false
set_option linter.all false
set_option maxRecDepth 100000
namespace L2
open PySem PySem.Spec PyProof.Rows
def Chg (S:List Addr) (H H':Hp):Prop:=∀ b o,H b=some o→b∉S→isTbl o=false→H' b=some o
theorem SameL.chg {S:List Addr} {H H':Hp} (s:SameL H H'):Chg S H H':=fun b o e _ t=>s b o e t
theorem Same.chg {S:List Addr} {H H':Hp} (s:Same H H'):Chg S H H':=fun b o e _ _=>s b o e
theorem Chg.refl {S:List Addr} (H:Hp):Chg S H H:=fun _ _ e _ _=>e
theorem Chg.trans {S:List Addr} {H H1 H2:Hp} (a:Chg S H H1) (b:Chg S H1 H2):Chg S H H2:=fun c o e n t=>b c o (a c o e n t) n t
theorem Chg.upd {S:List Addr} {H:Hp} {a:Addr} {o:HO} (h:a∈S):Chg S H (upd H a o):=fun b u e n _=>by
  rw[upd_ne (show b≠a from fun z=>n (by rw[z];exact h))];exact e
theorem Chg.mono {S S':List Addr} {H H':Hp} (h:Chg S H H') (k:∀ b∈S,b∈S'):Chg S' H H':=fun b o e n t=>h b o e (fun z=>n (k b z)) t
theorem Chg.l {H H':Hp} (h:Chg [] H H'):SameL H H':=fun b o e t=>h b o e (by simp) t
def Nw (H:Hp) (r:Addr):Prop:=∀ o,H r=some o→isTbl o=true
theorem Nw.of {H:Hp} {r:Addr} (h:H r=none):Nw H r:=fun o e=>by rw[h] at e;cases e
theorem Nw.ne {H:Hp} {r b:Addr} {o:HO} (n:Nw H r) (h:H b=some o) (t:isTbl o=false):b≠r:=fun z=>by
  rw[z] at h
  rw[n o h] at t
  cases t
theorem Nw.l {H H1:Hp} {r:Addr} (n:Nw H1 r) (s:SameL H H1):Nw H r:=fun o e=>by
  cases t:isTbl o with
  | true=>rfl
  | false=>rw[←t];exact n o (s r o e t)
theorem Nw.same {H H1:Hp} {r:Addr} (n:Nw H1 r) (s:Same H H1):Nw H r:=n.l s.l
theorem Nw.chg {S:List Addr} {H H1:Hp} {r:Addr} (n:Nw H1 r) (c:Chg S H H1) (hS:∀ b∈S,∃ o,H1 b=some o∧isTbl o=false):Nw H r:=fun o e=>by
  by_cases z:r∈S
  · obtain ⟨u,hu,tu⟩:=hS r z
    exact absurd rfl (n.ne hu tu)
  · cases t:isTbl o with
    | true=>rfl
    | false=>rw[←t];exact n o (c r o e z t)
def isExt:HO→Bool
  | .ext _=>true
  | _=>false
theorem TblOk.upd {H:Hp} {P a:Addr} {pos:Pos} {q:Str} {o o':HO} (T:TblOk H P pos q) (h:H a=some o) (t:isTbl o=false) (x:isExt o=false):TblOk (L2.upd H a o') P pos q:=by
  obtain ⟨ps,e,tr,hc⟩:=T
  refine ⟨ps,?_,tr,hc.imp id ?_⟩
  · rw[upd_ne (fun z=>by rw[z,h] at e;cases e;cases t)];exact e
  · rintro ⟨c,e1,e2⟩
    refine ⟨c,e1,?_⟩
    rw[upd_ne (fun z=>by rw[z,h] at e2;unfold CodeO at e2;cases e2;cases x)];exact e2
theorem SqL.lL {K:PySem.W.Frag} {H H':Hp} {a:Addr} {xs:List V} (h:SqL K H a xs) (s:SameL H H'):SqL K H' a xs:=by
  rcases h with h | h
  · rcases h with h | ⟨o,h⟩
    · exact .inl (.inl (s _ _ h rfl))
    · exact .inl (.inr ⟨o,s _ _ h rfl⟩)
  · exact .inr h
theorem SqL.chg {S:List Addr} {K:PySem.W.Frag} {H H':Hp} {a:Addr} {xs:List V} (h:SqL K H a xs) (s:Chg S H H') (n:a∉S):SqL K H' a xs:=by
  rcases h with h | h
  · rcases h with h | ⟨o,h⟩
    · exact .inl (.inl (s _ _ h n rfl))
    · exact .inl (.inr ⟨o,s _ _ h n rfl⟩)
  · exact .inr h
def RowA (H:Hp) (y:V) (r:List Nat×List V):Prop:=∃ a b,y=.ref a∧H a=some (.tup [tx r.1,.ref b])∧H b=some (.tup r.2)
def RowsA (H:Hp) (ys:List V) (rs:List (List Nat×List V)):Prop:=ys.length=rs.length∧∀ (i:Nat) (y:V),ys[i]?=some y→∃ r,rs[i]?=some r∧RowA H y r
theorem RowsA.chg {S:List Addr} {H H':Hp} {ys:List V} {rs:List (List Nat×List V)} (h:RowsA H ys rs) (c:Chg S H H') (hS:∀ b∈S,∀ us,H b≠some (.tup us)):RowsA H' ys rs:=by
  refine ⟨h.1,fun i y hy=>?_⟩
  obtain ⟨r,hr,a,b,e,h1,h2⟩:=h.2 i y hy
  exact ⟨r,hr,a,b,e,c _ _ h1 (fun z=>hS _ z _ h1) rfl,c _ _ h2 (fun z=>hS _ z _ h2) rfl⟩
theorem RowsA.l {H H':Hp} {ys:List V} {rs:List (List Nat×List V)} (h:RowsA H ys rs) (s:SameL H H'):RowsA H' ys rs:=h.chg (S:=[]) s.chg (by simp)
theorem RowsA.same {H H':Hp} {ys:List V} {rs:List (List Nat×List V)} (h:RowsA H ys rs) (s:Same H H'):RowsA H' ys rs:=h.l s.l
theorem RowsA.upd {H:Hp} {ys:List V} {rs:List (List Nat×List V)} {a:Addr} {o o':HO} (h:RowsA H ys rs) (e:H a=some o) (n:∀ us,o≠.tup us):RowsA (L2.upd H a o') ys rs:=
  h.chg (S:=[a]) (Chg.upd (by simp)) fun b hb us z=>by
    rw[List.mem_singleton.mp hb,e] at z
    exact n us (Option.some.inj z)
def rowD (r:List Nat×List V):DT:=.t [.f (tx r.1),.t (r.2.map .f)]
theorem dats_of {K:PySem.W.Frag} {H:Hp}:∀ {ds:List DT} {vs:List V},vs.length=ds.length→(∀ (i:Nat) (v:V),vs[i]?=some v→∃ d,ds[i]?=some d∧DatOk K H d v)→DatsOk K H ds vs
  | [],[],_,_=>by unfold DatsOk;rfl
  | [],_ :: _,h,_=>by simp at h
  | _ :: _,[],h,_=>by simp at h
  | d :: ds,v :: vs,h,g=>by
    unfold DatsOk
    obtain ⟨d',e,hd⟩:=g 0 v rfl
    cases e
    exact ⟨v,vs,rfl,hd,dats_of (by simpa using h) fun i u hu=>g (i + 1) u hu⟩
theorem RowA.dat {K:PySem.W.Frag} {H:Hp} {y:V} {r:List Nat×List V} (h:RowA H y r) (hf:r.2.all flatV=true):DatOk K H (rowD r) y:=by
  obtain ⟨a,b,rfl,h1,h2⟩:=h
  unfold rowD DatOk
  refine ⟨a,_,rfl,.mk h1,?_⟩
  unfold DatsOk
  refine ⟨_,_,rfl,datF rfl,?_⟩
  unfold DatsOk
  refine ⟨_,_,rfl,datT (.mk h2) hf,?_⟩
  unfold DatsOk
  rfl
theorem RowsA.dat {K:PySem.W.Frag} {H:Hp} {ys:List V} {rs:List (List Nat×List V)} (h:RowsA H ys rs) (hf:∀ r∈rs,r.2.all flatV=true):DatsOk K H (rs.map rowD) ys:=by
  refine dats_of (by rw[List.length_map];exact h.1) fun i y hy=>?_
  obtain ⟨r,hr,ra⟩:=h.2 i y hy
  exact ⟨rowD r,by rw[List.getElem?_map,hr];rfl,ra.dat (hf r (List.mem_of_getElem? hr))⟩
def PUT:List Nat:=[112,117,116]
def DROP:List Nat:=[100,114,111,112]
def deedV (d:Bool×Nat):List V:=[tx (if d.1 then PUT else DROP),tx [d.2]]
def DeedsA (H:Hp) (ts:List V) (ds:List (Bool×Nat)):Prop:=ts.length=ds.length∧∀ (i:Nat) (y:V),ts[i]?=some y→∃ d,ds[i]?=some d∧∃ t,y=.ref t∧H t=some (.tup (deedV d))
theorem DeedsA.chg {S:List Addr} {H H':Hp} {ts:List V} {ds:List (Bool×Nat)} (h:DeedsA H ts ds) (c:Chg S H H') (hS:∀ b∈S,∀ us,H b≠some (.tup us)):DeedsA H' ts ds:=by
  refine ⟨h.1,fun i y hy=>?_⟩
  obtain ⟨d,hd,t,e,ht⟩:=h.2 i y hy
  exact ⟨d,hd,t,e,c _ _ ht (fun z=>hS _ z _ ht) rfl⟩
theorem DeedsA.snoc {H:Hp} {ts:List V} {ds:List (Bool×Nat)} {t:Addr} {d:Bool×Nat} (h:DeedsA H ts ds) (ht:H t=some (.tup (deedV d))):DeedsA H (ts++[.ref t]) (ds++[d]):=by
  refine ⟨by rw[List.length_append,List.length_append,h.1];rfl,fun i y hy=>?_⟩
  by_cases z:i < ts.length
  · rw[List.getElem?_append_left z] at hy
    obtain ⟨d',hd,r⟩:=h.2 i y hy
    exact ⟨d',by rw[List.getElem?_append_left (by rw[←h.1];exact z)];exact hd,r⟩
  · rw[List.getElem?_append_right (by omega)] at hy
    have e:i - ts.length=0:=by
      rcases Nat.eq_zero_or_pos (i - ts.length) with q | q
      · exact q
      · rw[List.getElem?_eq_none (by simp;omega)] at hy;cases hy
    rw[e] at hy
    cases hy
    refine ⟨d,?_,t,rfl,ht⟩
    rw[List.getElem?_append_right (by rw[←h.1];omega),←h.1,e]
    rfl
theorem DeedsA.init {H:Hp} {ts:List V} {ds:List (Bool×Nat)} {d:Bool×Nat} (h:DeedsA H ts (ds++[d])):∃ ts' t,ts=ts'++[.ref t]∧H t=some (.tup (deedV d))∧DeedsA H ts' ds:=by
  have hl:ts.length=ds.length + 1:=by rw[h.1];simp
  have ne:ts≠[]:=fun e=>by rw[e] at hl;simp at hl
  have e:=List.dropLast_concat_getLast ne
  have hlast:ts[ds.length]?=some (ts.getLast ne):=by
    rw[List.getLast_eq_getElem,List.getElem?_eq_getElem (by omega)]
    congr 2
    omega
  obtain ⟨d',hd,t,et,ht⟩:=h.2 _ _ hlast
  rw[List.getElem?_append_right (Nat.le_refl _),Nat.sub_self] at hd
  cases hd
  refine ⟨ts.dropLast,t,by rw[←et];exact e.symm,ht,by rw[List.length_dropLast];omega,fun i y hy=>?_⟩
  rw[List.dropLast_eq_take,List.getElem?_take] at hy
  by_cases z:i < ts.length - 1
  · rw[if_pos z] at hy
    obtain ⟨d',hd,r⟩:=h.2 i y hy
    rw[List.getElem?_append_left (by omega)] at hd
    exact ⟨d',hd,r⟩
  · rw[if_neg z] at hy;cases hy
def deedD (d:Bool×Nat):DT:=.t ((deedV d).map .f)
theorem DeedsA.dat {K:PySem.W.Frag} {H:Hp} {ts:List V} {ds:List (Bool×Nat)} (h:DeedsA H ts ds):DatsOk K H (ds.map deedD) ts:=by
  refine dats_of (by rw[List.length_map];exact h.1) fun i y hy=>?_
  obtain ⟨d,hd,t,rfl,ht⟩:=h.2 i y hy
  exact ⟨deedD d,by rw[List.getElem?_map,hd];rfl,datT (.mk ht) rfl⟩
inductive Run (m:List Nat):List (Bool×Nat)→List Nat→Prop
  | nil:Run m [] []
  | put {ds:List (Bool×Nat)} {l:List Nat} {c:Nat} (h:Run m ds l) (hc:c∈m) (hl:l.length < 40):Run m (ds++[(true,c)]) (l++[c])
  | drop {ds:List (Bool×Nat)} {l:List Nat} {c:Nat} (h:Run m ds (c :: l)):Run m (ds++[(false,c)]) l
theorem Run.len {m:List Nat} {ds:List (Bool×Nat)} {l:List Nat} (h:Run m ds l):l.length≤40:=by
  induction h with
  | nil=>simp
  | put h hc hl ih=>simp;omega
  | drop h ih=>simp at ih;omega
theorem Run.mem {m:List Nat} {ds:List (Bool×Nat)} {l:List Nat} (h:Run m ds l):∀ x∈l,x∈m:=by
  induction h with
  | nil=>intro x hx;cases hx
  | put h hc hl ih=>
    intro x hx
    rcases List.mem_append.mp hx with hx | hx
    · exact ih x hx
    · rw[List.mem_singleton.mp hx];exact hc
  | drop h ih=>exact fun x hx=>ih x (List.mem_cons_of_mem _ hx)
theorem Run.last {m:List Nat} {ds':List (Bool×Nat)} {l:List Nat} (h:Run m ds' l) (ne:ds'≠[]):∃ ds c,(ds'=ds++[(true,c)]∧∃ l0,l=l0++[c]∧Run m ds l0)∨(ds'=ds++[(false,c)]∧Run m ds (c :: l)):=by
  cases h with
  | nil=>exact absurd rfl ne
  | put h hc hl=>exact ⟨_,_,.inl ⟨rfl,_,rfl,h⟩⟩
  | drop h=>exact ⟨_,_,.inr ⟨rfl,h⟩⟩
def sF (l m:List Nat) (la da:Addr):List (Str×V):=[("own_text",tx l),("own_kinds",tx m),("own_lacking",.ref la),("own_deeds",.ref da)]
def LETx:List Nat:=[97,98,99,100,101,102,103,104,105,106,107,108,109,110,111,112,113,114,115,116,117,118,119,120,121,122]
def iskx (l:List Nat):Bool:=decide (1≤l.length)&&decide (l.length≤4)&&(l.all fun c=>LETx.contains c)&&decide (signs l=sortT (ddl (signs l)))
def StripF (C:Addr) (H:Hp) (p la da:Addr) (l m:List Nat):Prop:=∃ dx,H p=some (.ins C dx (sF l m la da))
structure KindsOk (m:List Nat):Prop where
  k:iskx m=true
  m1:1≤m.length
  m4:m.length≤4
  rise:m.Pairwise (· < ·)
structure StripAt (C:Addr) (H:Hp) (p la da:Addr) (l m:List Nat) (ds:List (Bool×Nat)):Prop where
  fld:StripF C H p la da l m
  lack:H la=some (.lst ((lackOf l m).map tx))
  deed:∃ ts,H da=some (.lst ts)∧DeedsA H ts ds
  run:Run m ds l
  ok:KindsOk m
  ne:la≠da
theorem StripAt.chg {S:List Addr} {C:Addr} {H H':Hp} {p la da:Addr} {l m:List Nat} {ds:List (Bool×Nat)} (h:StripAt C H p la da l m ds) (c:Chg S H H') (hS:∀ b∈S,∀ us,H b≠some (.tup us)) (n1:p∉S) (n2:la∉S) (n3:da∉S):StripAt C H' p la da l m ds:=by
  obtain ⟨⟨dx,f⟩,k,⟨ts,d1,d2⟩,r,o,n⟩:=h
  exact ⟨⟨dx,c _ _ f n1 rfl⟩,c _ _ k n2 rfl,⟨ts,c _ _ d1 n3 rfl,d2.chg c hS⟩,r,o,n⟩
theorem StripAt.l {C:Addr} {H H':Hp} {p la da:Addr} {l m:List Nat} {ds:List (Bool×Nat)} (h:StripAt C H p la da l m ds) (s:SameL H H'):StripAt C H' p la da l m ds:=h.chg (S:=[]) s.chg (by simp) (by simp) (by simp) (by simp)
theorem StripAt.same {C:Addr} {H H':Hp} {p la da:Addr} {l m:List Nat} {ds:List (Bool×Nat)} (h:StripAt C H p la da l m ds) (s:Same H H'):StripAt C H' p la da l m ds:=h.l s.l
theorem StripAt.upd {C:Addr} {H:Hp} {p la da a:Addr} {l m:List Nat} {ds:List (Bool×Nat)} {xs:List V} {o:HO} (h:StripAt C H p la da l m ds) (e:H a=some (.lst xs)) (n2:a≠la) (n3:a≠da):StripAt C (L2.upd H a o) p la da l m ds:=by
  obtain ⟨dx,f⟩:=h.fld
  exact h.chg (S:=[a]) (Chg.upd (by simp)) (fun b hb us z=>by rw[List.mem_singleton.mp hb,e] at z;cases z) (fun z=>by rw[List.mem_singleton.mp z,e] at f;cases f) (fun z=>n2 (List.mem_singleton.mp z).symm) (fun z=>n3 (List.mem_singleton.mp z).symm)
structure AnsS (H H2:Hp) (t c g la:Addr) (rc rg:List (List Nat×List V)):Prop where
  tup:H2 t=some (.tup [.ref c,.ref g])
  came:∃ ys,H2 c=some (.lst ys)∧RowsA H2 ys rc
  went:∃ zs,H2 g=some (.lst zs)∧RowsA H2 zs rg
  nc:Nw H c
  ng:Nw H g
  nl:Nw H la
  ncg:c≠g
  ncl:c≠la
  ngl:g≠la
end L2
set_option Elab.async false
set_option linter.all false
set_option maxRecDepth 100000
namespace L2
open PySem PySem.Spec PyProof.Rows PySem.W
section
variable {te:TE} {Q:VK} {τ0:St} {H:Hp} {K:Frag} {a:Addr} {xs:List V}
theorem CompRun.pairs (u v f:Nat→V) (hz:xs.length≤100000) (hx:SqL K H a xs) (hp:∀ i,i < xs.length→∃ t,xs[i]?=some (.ref t)∧H t=some (.tup [u i,v i]))
    (he:∀ i H' Q' (h:i < xs.length),Same H H'→(∀ H'',Same H' H''→Q' (f i) H'')→te ((τ0.set 0 (some (u i))).set 1 (some (v i))) H' Q')
    (hQ:∀ p H',Same H H'→H p=none→H' p=some (.lst ((List.range xs.length).map f))→Q (.ref p) H'):CompRun (Itl K a) τ0 (gTup K 2 (gCons (gName 0) (gCons (gName 1) gNil))) tAll te H Q:=by
  intro acc ha
  refine ⟨fun i m τ H2=>i≤xs.length∧m=xs.length - i∧(∀ w z:Option V,(τ.set 0 w).set 1 z=(τ0.set 0 w).set 1 z)∧Same H H2∧H2 acc=some (.lst ((List.range i).map f)),⟨xs.length,Nat.zero_le _,rfl,fun _ _=>rfl,same_upd ha,upd_same⟩,?_⟩
  rintro i m τ H2 ⟨hi,rfl,hτ,hs,hacc⟩
  by_cases hlt:i < xs.length
  · refine .inr ⟨⟨xs,xs[i],hs.seq hx,by simp [hlt]⟩,fun τ' H'=>(∀ w z:Option V,(τ'.set 0 w).set 1 z=(τ0.set 0 w).set 1 z)∧Same H H'∧H' acc=some (.lst ((List.range (i + 1)).map f)),fun τ' H' q=>⟨xs.length - (i + 1),by omega,hlt,rfl,q⟩,fun x H3 y=>?_⟩
    obtain ⟨rfl,y⟩:=y
    obtain ⟨t,ht,hT⟩:=hp i hlt
    have ex:x=.ref t:=Option.some.inj ((y xs (hs.seq hx)).symm.trans ht)
    subst ex
    refine ⟨t,[u i,v i],rfl,.mk (hs _ _ hT),rfl,u i,[v i],rfl,v i,[],rfl,rfl,?_⟩
    unfold tAll
    dsimp only
    rw[if_pos rfl,hτ]
    have hτ':∀ w z:Option V,((((τ0.set 0 (some (u i))).set 1 (some (v i))).set 0 w).set 1 z)=(τ0.set 0 w).set 1 z:=fun w z=>by
      rw[List.set_comm (some (v i)) w (show (1:Nat)≠0 by decide),List.set_set,List.set_set]
    refine he i _ _ hlt hs fun H5 s5=>⟨_,s5 _ _ hacc,by rw[List.length_map,List.length_range,sizeLine_eq];omega,hτ',same_upd3' ha (hs.trans s5),?_⟩
    rw[upd_same,List.range_succ,List.map_append]
    rfl
  · have e:i=xs.length:=by omega
    subst e
    exact .inl ⟨⟨xs,hs.seq hx,Nat.le_refl _⟩,hQ acc H2 hs ha hacc⟩
end
end L2
set_option Elab.async false
set_option linter.all false
set_option maxRecDepth 100000
namespace L2
open PySem PySem.Spec PyProof.Rows
def tHold (t:TS):TS:=t
theorem pss_hold {X:Cx} {st:List Stmt} {t:TS} (h:PSs X st t):PSs X st (tHold t):=h
theorem hold_of {t:TS} {D:Ends} {σ:St} {H:Hp} (h:t D σ H):tHold t D σ H:=h
end L2
set_option Elab.async false
set_option linter.all false
set_option maxRecDepth 100000
namespace L2
open PySem PySem.Spec PyProof.Rows
section
variable {X:Cx}
end
end L2
set_option Elab.async false
set_option linter.all false
set_option maxRecDepth 100000
set_option maxHeartbeats 400000000
namespace Pk73
open PySem L2
def top (i:Nat):Stmt:=PySem.Challenge.pw_lackword_k73_missing_words_of_rings.main.body.getD i (.Pass ⟨0,0,0,0⟩)
abbrev s_has_only:Stmt:=top 9
abbrev s_is_kinds:Stmt:=top 10
abbrev s_is_word:Stmt:=top 11
abbrev s_need_kinds:Stmt:=top 12
abbrev s_need_word:Stmt:=top 13
abbrev s_places:Stmt:=top 15
abbrev s_pieces:Stmt:=top 16
abbrev s_among:Stmt:=top 18
abbrev s_lcell:Stmt:=top 24
abbrev s_mixed:Stmt:=top 25
abbrev s_lkinds:Stmt:=top 26
abbrev s_letters:Stmt:=top 27
abbrev s_lring:Stmt:=top 28
abbrev s_lwords:Stmt:=top 29
abbrev s_missing:Stmt:=top 30
abbrev s_asked:Stmt:=top 31
abbrev s_law:Stmt:=top 32
abbrev s_NoWord_init:Stmt:=inClass (top 2) 0
abbrev s_NoRing_init:Stmt:=inClass (top 3) 0
abbrev s_Band_init:Stmt:=inClass (top 19) 0
abbrev s_Band_text:Stmt:=inClass (top 19) 2
abbrev s_Band_words:Stmt:=inClass (top 19) 4
abbrev s_Band_stands:Stmt:=inClass (top 19) 5
abbrev s_Band_place_of:Stmt:=inClass (top 19) 6
abbrev s_Band_lacking:Stmt:=inClass (top 19) 8
abbrev s_Ring_init:Stmt:=inClass (top 22) 0
abbrev s_Ring_laid_out:Stmt:=inClass (top 22) 1
abbrev s_Ring_root:Stmt:=inClass (top 22) 2
abbrev s_Ring_reach:Stmt:=inClass (top 22) 3
abbrev s_Ring_turned:Stmt:=inClass (top 22) 4
structure Ad where
  c_LackError:Addr
  c_NoWord:Addr
  c_NoRing:Addr
  c_NoKinds:Addr
  c_Band:Addr
  c_Ring:Addr
  g_NoWord_init:Addr
  e_NoWord_init:FuncData
  g_NoRing_init:Addr
  e_NoRing_init:FuncData
  g_Band_init:Addr
  e_Band_init:FuncData
  g_Band_text:Addr
  e_Band_text:FuncData
  g_Band_words:Addr
  e_Band_words:FuncData
  g_Band_stands:Addr
  e_Band_stands:FuncData
  g_Band_place_of:Addr
  e_Band_place_of:FuncData
  g_Band_lacking:Addr
  e_Band_lacking:FuncData
  g_Ring_init:Addr
  e_Ring_init:FuncData
  g_Ring_laid_out:Addr
  e_Ring_laid_out:FuncData
  g_Ring_root:Addr
  e_Ring_root:FuncData
  g_Ring_reach:Addr
  e_Ring_reach:FuncData
  g_Ring_turned:Addr
  e_Ring_turned:FuncData
  f_has_only:Addr
  d_has_only:FuncData
  f_is_kinds:Addr
  d_is_kinds:FuncData
  f_is_word:Addr
  d_is_word:FuncData
  f_need_kinds:Addr
  d_need_kinds:FuncData
  f_need_word:Addr
  d_need_word:FuncData
  f_places:Addr
  d_places:FuncData
  f_pieces:Addr
  d_pieces:FuncData
  f_among:Addr
  d_among:FuncData
  f_lcell:Addr
  d_lcell:FuncData
  f_mixed:Addr
  d_mixed:FuncData
  f_lkinds:Addr
  d_lkinds:FuncData
  f_letters:Addr
  d_letters:FuncData
  f_lring:Addr
  d_lring:FuncData
  f_lwords:Addr
  d_lwords:FuncData
  f_missing:Addr
  d_missing:FuncData
  f_asked:Addr
  d_asked:FuncData
  f_law:Addr
  d_law:FuncData
  t_missing:Addr
  k_missing:Addr
structure Txt (K:PySem.W.Frag) (mg:Str→Option Value) (a:Ad):Prop where
  m_has_only:mg "has_only"=some (.ref a.f_has_only)
  f_has_only:Fun K "has_only" "has_only" s_has_only a.f_has_only a.d_has_only
  b_has_only:Binds K a.d_has_only ["text","letters"] []
  m_is_kinds:mg "is_kinds"=some (.ref a.f_is_kinds)
  f_is_kinds:Fun K "is_kinds" "is_kinds" s_is_kinds a.f_is_kinds a.d_is_kinds
  b_is_kinds:Binds K a.d_is_kinds ["thing"] []
  m_is_word:mg "is_word"=some (.ref a.f_is_word)
  f_is_word:Fun K "is_word" "is_word" s_is_word a.f_is_word a.d_is_word
  b_is_word:Binds K a.d_is_word ["thing","kinds","most"] []
  m_need_kinds:mg "need_kinds"=some (.ref a.f_need_kinds)
  f_need_kinds:Fun K "need_kinds" "need_kinds" s_need_kinds a.f_need_kinds a.d_need_kinds
  b_need_kinds:Binds K a.d_need_kinds ["thing"] []
  m_need_word:mg "need_word"=some (.ref a.f_need_word)
  f_need_word:Fun K "need_word" "need_word" s_need_word a.f_need_word a.d_need_word
  b_need_word:Binds K a.d_need_word ["thing","kinds","most"] []
  m_places:mg "places"=some (.ref a.f_places)
  f_places:Fun K "places" "places" s_places a.f_places a.d_places
  b_places:Binds K a.d_places ["text","word"] []
  m_pieces:mg "pieces"=some (.ref a.f_pieces)
  f_pieces:Fun K "pieces" "pieces" s_pieces a.f_pieces a.d_pieces
  b_pieces:Binds K a.d_pieces ["text","length"] []
  m_among:mg "lacking_among"=some (.ref a.f_among)
  f_among:Fun K "lacking_among" "lacking_among" s_among a.f_among a.d_among
  b_among:Binds K a.d_among ["shorter","standing","kinds"] []
  m_lcell:mg "_law_cell"=some (.ref a.f_lcell)
  f_lcell:Fun K "_law_cell" "_law_cell" s_lcell a.f_lcell a.d_lcell
  b_lcell:Binds K a.d_lcell ["_law_script","_law_k"] []
  m_mixed:mg "_law_mixed"=some (.ref a.f_mixed)
  f_mixed:Fun K "_law_mixed" "_law_mixed" s_mixed a.f_mixed a.d_mixed
  b_mixed:Binds K a.d_mixed ["_law_cell_here","_law_k"] []
  m_lkinds:mg "_law_kinds"=some (.ref a.f_lkinds)
  f_lkinds:Fun K "_law_kinds" "_law_kinds" s_lkinds a.f_lkinds a.d_lkinds
  b_lkinds:Binds K a.d_lkinds ["_law_cell_here"] []
  m_letters:mg "_law_letters"=some (.ref a.f_letters)
  f_letters:Fun K "_law_letters" "_law_letters" s_letters a.f_letters a.d_letters
  b_letters:Binds K a.d_letters ["_law_way","_law_cell_here","_law_kinds_here","_law_size"] []
  m_lring:mg "_law_ring"=some (.ref a.f_lring)
  f_lring:Fun K "_law_ring" "_law_ring" s_lring a.f_lring a.d_lring
  b_lring:Binds K a.d_lring ["_law_script","_law_at","_law_kinds_here"] []
  m_lwords:mg "_law_words"=some (.ref a.f_lwords)
  f_lwords:Fun K "_law_words" "_law_words" s_lwords a.f_lwords a.d_lwords
  b_lwords:Binds K a.d_lwords ["_law_text","_law_length"] []
  m_missing:mg "_law_missing"=some (.ref a.f_missing)
  f_missing:Fun K "_law_missing" "_law_missing" s_missing a.f_missing a.d_missing
  b_missing:Binds K a.d_missing ["_law_text","_law_kinds_here"] []
  m_asked:mg "_law_asked"=some (.ref a.f_asked)
  f_asked:Fun K "_law_asked" "_law_asked" s_asked a.f_asked a.d_asked
  b_asked:Binds K a.d_asked ["_law_cell_here","_law_text","_law_kinds_here"] []
  m_law:mg "law"=some (.ref a.f_law)
  f_law:Fun K "law" "law" s_law a.f_law a.d_law
  b_law:Binds K a.d_law ["_law_script"] []
  m_LackError:mg "LackError"=some (.ref a.c_LackError)
  x_LackError:Xm K a.c_LackError
  xi_LackError:Xi K a.c_LackError
  k_LackError:ClsOk K a.c_LackError [.ref a.c_LackError,.type "ValueError",.type "Exception",.type "BaseException",.type "object"]
  i_LackError:PySem.W.findIn K (.ref a.c_LackError) "__init__"=some (some (.builtin "ValueError.__init__"))
  r_LackError:ClsRead K a.c_LackError "__init__" (.builtin "ValueError.__init__")
  m_NoWord:mg "NoWord"=some (.ref a.c_NoWord)
  x_NoWord:Xm K a.c_NoWord
  xi_NoWord:Xi K a.c_NoWord
  k_NoWord:ClsOk K a.c_NoWord [.ref a.c_NoWord,.ref a.c_LackError,.type "ValueError",.type "Exception",.type "BaseException",.type "object"]
  i_NoWord:PySem.W.findIn K (.ref a.c_NoWord) "__init__"=some (some (.ref a.g_NoWord_init))
  fn_NoWord:PySem.W.isFn K (.ref a.g_NoWord_init)=true
  n_NoWord_word:NoAttr K a.c_NoWord "word"
  fi_NoWord:Fun K "__init__" "NoWord.__init__" s_NoWord_init a.g_NoWord_init a.e_NoWord_init
  b_NoWord:Binds K a.e_NoWord_init ["self","word"] []
  m_NoRing:mg "NoRing"=some (.ref a.c_NoRing)
  x_NoRing:Xm K a.c_NoRing
  xi_NoRing:Xi K a.c_NoRing
  k_NoRing:ClsOk K a.c_NoRing [.ref a.c_NoRing,.ref a.c_LackError,.type "ValueError",.type "Exception",.type "BaseException",.type "object"]
  i_NoRing:PySem.W.findIn K (.ref a.c_NoRing) "__init__"=some (some (.ref a.g_NoRing_init))
  fn_NoRing:PySem.W.isFn K (.ref a.g_NoRing_init)=true
  n_NoRing_thing:NoAttr K a.c_NoRing "thing"
  fi_NoRing:Fun K "__init__" "NoRing.__init__" s_NoRing_init a.g_NoRing_init a.e_NoRing_init
  b_NoRing:Binds K a.e_NoRing_init ["self","thing"] []
  m_NoKinds:mg "NoKinds"=some (.ref a.c_NoKinds)
  x_NoKinds:Xm K a.c_NoKinds
  xi_NoKinds:Xi K a.c_NoKinds
  k_NoKinds:ClsOk K a.c_NoKinds [.ref a.c_NoKinds,.ref a.c_LackError,.type "ValueError",.type "Exception",.type "BaseException",.type "object"]
  i_NoKinds:PySem.W.findIn K (.ref a.c_NoKinds) "__init__"=some (some (.builtin "ValueError.__init__"))
  m_Band:mg "Band"=some (.ref a.c_Band)
  cr_Band:ClsRead K a.c_Band "__init__" (.ref a.g_Band_init)
  cl_Band:Cls K a.c_Band
  m_Ring:mg "Ring"=some (.ref a.c_Ring)
  cr_Ring:ClsRead K a.c_Ring "__init__" (.ref a.g_Ring_init)
  cl_Ring:Cls K a.c_Ring
  mk_Ring:Mk K a.c_Ring a.g_Ring_init
  me_Ring_text:Meth K a.c_Ring "text" a.g_Band_text
  me_Ring_words:Meth K a.c_Ring "words" a.g_Band_words
  me_Ring_laid_out:Meth K a.c_Ring "laid_out" a.g_Ring_laid_out
  me_Ring_stands:Meth K a.c_Ring "stands" a.g_Band_stands
  me_Ring_place_of:Meth K a.c_Ring "place_of" a.g_Band_place_of
  me_Ring_reach:Meth K a.c_Ring "reach" a.g_Ring_reach
  me_Ring_root:Meth K a.c_Ring "root" a.g_Ring_root
  me_Ring_lacking:Meth K a.c_Ring "lacking" a.g_Band_lacking
  me_Ring_turned:Meth K a.c_Ring "turned" a.g_Ring_turned
  n_Ring_own_text:NoAttr K a.c_Ring "own_text"
  n_Ring_own_kinds:NoAttr K a.c_Ring "own_kinds"
  ty_Ring:∀ {H:Hp} {x dx:Addr} {fs:List (Str×V)},H x=some (.ins a.c_Ring dx fs)→TyOf K H (.ref x) (.ref a.c_Ring)
  fm_Band_init:Fun K "__init__" "Band.__init__" s_Band_init a.g_Band_init a.e_Band_init
  kp_Band_init:PySem.W.keepIn K (.ref a.g_Band_init)=true
  b_Band_init:Binds K a.e_Band_init ["self","text","kinds"] []
  fm_Band_text:Fun K "text" "Band.text" s_Band_text a.g_Band_text a.e_Band_text
  kp_Band_text:PySem.W.keepIn K (.ref a.g_Band_text)=true
  b_Band_text:Binds K a.e_Band_text ["self"] []
  fm_Band_words:Fun K "words" "Band.words" s_Band_words a.g_Band_words a.e_Band_words
  kp_Band_words:PySem.W.keepIn K (.ref a.g_Band_words)=true
  b_Band_words:Binds K a.e_Band_words ["self","length"] []
  fm_Band_stands:Fun K "stands" "Band.stands" s_Band_stands a.g_Band_stands a.e_Band_stands
  kp_Band_stands:PySem.W.keepIn K (.ref a.g_Band_stands)=true
  b_Band_stands:Binds K a.e_Band_stands ["self","word"] []
  fm_Band_place_of:Fun K "place_of" "Band.place_of" s_Band_place_of a.g_Band_place_of a.e_Band_place_of
  kp_Band_place_of:PySem.W.keepIn K (.ref a.g_Band_place_of)=true
  b_Band_place_of:Binds K a.e_Band_place_of ["self","word"] []
  fm_Band_lacking:Fun K "lacking" "Band.lacking" s_Band_lacking a.g_Band_lacking a.e_Band_lacking
  kp_Band_lacking:PySem.W.keepIn K (.ref a.g_Band_lacking)=true
  b_Band_lacking:Binds K a.e_Band_lacking ["self"] []
  fm_Ring_init:Fun K "__init__" "Ring.__init__" s_Ring_init a.g_Ring_init a.e_Ring_init
  kp_Ring_init:PySem.W.keepIn K (.ref a.g_Ring_init)=true
  b_Ring_init:Binds K a.e_Ring_init ["self","text","kinds"] []
  fm_Ring_laid_out:Fun K "laid_out" "Ring.laid_out" s_Ring_laid_out a.g_Ring_laid_out a.e_Ring_laid_out
  kp_Ring_laid_out:PySem.W.keepIn K (.ref a.g_Ring_laid_out)=true
  b_Ring_laid_out:Binds K a.e_Ring_laid_out ["self","length"] []
  fm_Ring_root:Fun K "root" "Ring.root" s_Ring_root a.g_Ring_root a.e_Ring_root
  kp_Ring_root:PySem.W.keepIn K (.ref a.g_Ring_root)=true
  b_Ring_root:Binds K a.e_Ring_root ["self"] []
  fm_Ring_reach:Fun K "reach" "Ring.reach" s_Ring_reach a.g_Ring_reach a.e_Ring_reach
  kp_Ring_reach:PySem.W.keepIn K (.ref a.g_Ring_reach)=true
  b_Ring_reach:Binds K a.e_Ring_reach ["self"] []
  fm_Ring_turned:Fun K "turned" "Ring.turned" s_Ring_turned a.g_Ring_turned a.e_Ring_turned
  kp_Ring_turned:PySem.W.keepIn K (.ref a.g_Ring_turned)=true
  b_Ring_turned:Binds K a.e_Ring_turned ["self","by"] []
  nd:[a.c_LackError,a.c_NoWord,a.c_NoRing,a.c_NoKinds].Nodup
  z_len:mg "len"=none
  z_range:mg "range"=none
  z_isinstance:mg "isinstance"=none
  z_all:mg "all"=none
  z_list:mg "list"=none
  z_set:mg "set"=none
  z_sorted:mg "sorted"=none
  z_str:mg "str"=none
  z_int:mg "int"=none
  z_ValueError:mg "ValueError"=none
  c_SMALL_LETTERS:∃ t,mg "SMALL_LETTERS"=some (.str (Str.ofString "abcdefghijklmnopqrstuvwxyz") t)
  c_MOST_KINDS:∃ t,mg "MOST_KINDS"=some (.int 4 t)
  c_MOST_ASKED:∃ t,mg "MOST_ASKED"=some (.int 60 t)
  c_MOST_IN_RING:∃ t,mg "MOST_IN_RING"=some (.int 20 t)
  bl:∀ (s:Shared) (u:Value),BindsTo s a.d_law ⟨[u],[]⟩ [("_law_script",u)]
structure TL (K:PySem.W.Frag) (mg:Str→Option Value) (base:Heap) (a:Ad) (tb:Str→Addr×Addr):Prop extends Txt K mg a where
  L_missing:LamEnv base mg a.k_missing a.t_missing
  cd_missing:a.d_missing.code=.ref a.k_missing
  e_missing:a.t_missing=(tb "_law_missing").2
theorem txt_mk {K:PySem.W.Frag} {h:Heap} {mg:Str→Option Value} (X:K.In h) (G:h.Ns mainGlobals mg) {c_LackError:Addr} {cd_LackError:ClassData} {nm_LackError qn_LackError:Str} {N_LackError:Addr} {bs_LackError bm_LackError:List Value} {hdct_LackError:Bool} {sn_LackError:List Str} {sub_LackError:List Value} {ab_LackError:Bool} {col_LackError:Option Bool} {dd_LackError:Option Addr} {k0_LackError k1_LackError k2_LackError k3_LackError k5_LackError:Option Value} {c_NoWord:Addr} {cd_NoWord:ClassData} {nm_NoWord qn_NoWord:Str} {N_NoWord:Addr} {bs_NoWord bm_NoWord:List Value} {hdct_NoWord:Bool} {sn_NoWord:List Str} {sub_NoWord:List Value} {ab_NoWord:Bool} {col_NoWord:Option Bool} {dd_NoWord:Option Addr} {k0_NoWord k1_NoWord k2_NoWord k3_NoWord k5_NoWord:Option Value} {g_NoWord_init:Addr} {od_INoWord an_INoWord:Option Addr} {sl_INoWord:Array (Option Value)} {oc_INoWord kV_INoWord dc_INoWord pm_INoWord cd_INoWord ct_INoWord:Value} {c_NoRing:Addr} {cd_NoRing:ClassData} {nm_NoRing qn_NoRing:Str} {N_NoRing:Addr} {bs_NoRing bm_NoRing:List Value} {hdct_NoRing:Bool} {sn_NoRing:List Str} {sub_NoRing:List Value} {ab_NoRing:Bool} {col_NoRing:Option Bool} {dd_NoRing:Option Addr} {k0_NoRing k1_NoRing k2_NoRing k3_NoRing k5_NoRing:Option Value} {g_NoRing_init:Addr} {od_INoRing an_INoRing:Option Addr} {sl_INoRing:Array (Option Value)} {oc_INoRing kV_INoRing dc_INoRing pm_INoRing cd_INoRing ct_INoRing:Value} {c_NoKinds:Addr} {cd_NoKinds:ClassData} {nm_NoKinds qn_NoKinds:Str} {N_NoKinds:Addr} {bs_NoKinds bm_NoKinds:List Value} {hdct_NoKinds:Bool} {sn_NoKinds:List Str} {sub_NoKinds:List Value} {ab_NoKinds:Bool} {col_NoKinds:Option Bool} {dd_NoKinds:Option Addr} {k0_NoKinds k1_NoKinds k2_NoKinds k3_NoKinds k5_NoKinds:Option Value} {g_Band_init:Addr} {od_MBand_init an_MBand_init:Option Addr} {sl_MBand_init:Array (Option Value)} {oc_MBand_init kV_MBand_init dc_MBand_init pm_MBand_init cd_MBand_init ct_MBand_init:Value} {g_Band_text:Addr} {od_MBand_text an_MBand_text:Option Addr} {sl_MBand_text:Array (Option Value)} {oc_MBand_text kV_MBand_text dc_MBand_text pm_MBand_text cd_MBand_text ct_MBand_text:Value} {g_Band_words:Addr} {od_MBand_words an_MBand_words:Option Addr} {sl_MBand_words:Array (Option Value)} {oc_MBand_words kV_MBand_words dc_MBand_words pm_MBand_words cd_MBand_words ct_MBand_words:Value} {g_Band_stands:Addr} {od_MBand_stands an_MBand_stands:Option Addr} {sl_MBand_stands:Array (Option Value)} {oc_MBand_stands kV_MBand_stands dc_MBand_stands pm_MBand_stands cd_MBand_stands ct_MBand_stands:Value} {g_Band_place_of:Addr} {od_MBand_place_of an_MBand_place_of:Option Addr} {sl_MBand_place_of:Array (Option Value)} {oc_MBand_place_of kV_MBand_place_of dc_MBand_place_of pm_MBand_place_of cd_MBand_place_of ct_MBand_place_of:Value} {g_Band_lacking:Addr} {od_MBand_lacking an_MBand_lacking:Option Addr} {sl_MBand_lacking:Array (Option Value)} {oc_MBand_lacking kV_MBand_lacking dc_MBand_lacking pm_MBand_lacking cd_MBand_lacking ct_MBand_lacking:Value} {g_Ring_init:Addr} {od_MRing_init an_MRing_init:Option Addr} {sl_MRing_init:Array (Option Value)} {oc_MRing_init kV_MRing_init dc_MRing_init pm_MRing_init cd_MRing_init ct_MRing_init:Value} {g_Ring_laid_out:Addr} {od_MRing_laid_out an_MRing_laid_out:Option Addr} {sl_MRing_laid_out:Array (Option Value)} {oc_MRing_laid_out kV_MRing_laid_out dc_MRing_laid_out pm_MRing_laid_out cd_MRing_laid_out ct_MRing_laid_out:Value} {g_Ring_root:Addr} {od_MRing_root an_MRing_root:Option Addr} {sl_MRing_root:Array (Option Value)} {oc_MRing_root kV_MRing_root dc_MRing_root pm_MRing_root cd_MRing_root ct_MRing_root:Value} {g_Ring_reach:Addr} {od_MRing_reach an_MRing_reach:Option Addr} {sl_MRing_reach:Array (Option Value)} {oc_MRing_reach kV_MRing_reach dc_MRing_reach pm_MRing_reach cd_MRing_reach ct_MRing_reach:Value} {g_Ring_turned:Addr} {od_MRing_turned an_MRing_turned:Option Addr} {sl_MRing_turned:Array (Option Value)} {oc_MRing_turned kV_MRing_turned dc_MRing_turned pm_MRing_turned cd_MRing_turned ct_MRing_turned:Value} {c_Band:Addr} {c_Ring:Addr} {f_has_only:Addr} {od_has_only an_has_only:Option Addr} {sl_has_only:Array (Option Value)} {oc_has_only kV_has_only dc_has_only pm_has_only cd_has_only ct_has_only:Value} {f_is_kinds:Addr} {od_is_kinds an_is_kinds:Option Addr} {sl_is_kinds:Array (Option Value)} {oc_is_kinds kV_is_kinds dc_is_kinds pm_is_kinds cd_is_kinds ct_is_kinds:Value} {f_is_word:Addr} {od_is_word an_is_word:Option Addr} {sl_is_word:Array (Option Value)} {oc_is_word kV_is_word dc_is_word pm_is_word cd_is_word ct_is_word:Value} {f_need_kinds:Addr} {od_need_kinds an_need_kinds:Option Addr} {sl_need_kinds:Array (Option Value)} {oc_need_kinds kV_need_kinds dc_need_kinds pm_need_kinds cd_need_kinds ct_need_kinds:Value} {f_need_word:Addr} {od_need_word an_need_word:Option Addr} {sl_need_word:Array (Option Value)} {oc_need_word kV_need_word dc_need_word pm_need_word cd_need_word ct_need_word:Value} {f_places:Addr} {od_places an_places:Option Addr} {sl_places:Array (Option Value)} {oc_places kV_places dc_places pm_places cd_places ct_places:Value} {f_pieces:Addr} {od_pieces an_pieces:Option Addr} {sl_pieces:Array (Option Value)} {oc_pieces kV_pieces dc_pieces pm_pieces cd_pieces ct_pieces:Value} {f_among:Addr} {od_among an_among:Option Addr} {sl_among:Array (Option Value)} {oc_among kV_among dc_among pm_among cd_among ct_among:Value} {f_lcell:Addr} {od_lcell an_lcell:Option Addr} {sl_lcell:Array (Option Value)} {oc_lcell kV_lcell dc_lcell pm_lcell cd_lcell ct_lcell:Value} {f_mixed:Addr} {od_mixed an_mixed:Option Addr} {sl_mixed:Array (Option Value)} {oc_mixed kV_mixed dc_mixed pm_mixed cd_mixed ct_mixed:Value} {f_lkinds:Addr} {od_lkinds an_lkinds:Option Addr} {sl_lkinds:Array (Option Value)} {oc_lkinds kV_lkinds dc_lkinds pm_lkinds cd_lkinds ct_lkinds:Value} {f_letters:Addr} {od_letters an_letters:Option Addr} {sl_letters:Array (Option Value)} {oc_letters kV_letters dc_letters pm_letters cd_letters ct_letters:Value} {f_lring:Addr} {od_lring an_lring:Option Addr} {sl_lring:Array (Option Value)} {oc_lring kV_lring dc_lring pm_lring cd_lring ct_lring:Value} {f_lwords:Addr} {od_lwords an_lwords:Option Addr} {sl_lwords:Array (Option Value)} {oc_lwords kV_lwords dc_lwords pm_lwords cd_lwords ct_lwords:Value} {f_missing:Addr} {od_missing an_missing:Option Addr} {sl_missing:Array (Option Value)} {oc_missing kV_missing dc_missing pm_missing cd_missing ct_missing:Value} {f_asked:Addr} {od_asked an_asked:Option Addr} {sl_asked:Array (Option Value)} {oc_asked kV_asked dc_asked pm_asked cd_asked ct_asked:Value} {f_law:Addr} {od_law an_law:Option Addr} {sl_law:Array (Option Value)} {oc_law kV_law dc_law pm_law cd_law ct_law:Value} {tk_SMALL_LETTERS:Tok} {tk_MOST_KINDS:Tok} {tk_MOST_ASKED:Tok} {tk_MOST_IN_RING:Tok} {t_missing k_missing:Addr}
    (oc_hn:PySem.W.specialIn K (.builtin "object.__class__") "__get__"=some (some (.builtin "getset_descriptor.__get__")))
    (oc_tk:PySem.W.takesIn K (.builtin "object.__class__")=some true)
    (a_LackError:PySem.W.nsIn K mainGlobals "LackError"=some (some (.ref c_LackError)))
    (q_LackError:PySem.W.clsIn K c_LackError=some cd_LackError)
    (r_LackError:cd_LackError.mro=[.ref c_LackError,.type "ValueError",.type "Exception",.type "BaseException",.type "object"])
    (ty_LackError:PySem.W.typeIn K (.ref c_LackError)=some (.type "type"))
    (ga_LackError:PySem.W.findIn K (.ref c_LackError) "__getattribute__"=some (some (.builtin "BaseException.__getattribute__")))
    (gr_LackError:PySem.W.findIn K (.ref c_LackError) "__getattr__"=some none)
    (sa_LackError:PySem.W.findIn K (.ref c_LackError) "__setattr__"=some (some (.builtin "object.__setattr__")))
    (hd_LackError:PySem.W.hasDictIn K c_LackError=true)
    (ob_LackError:K.lookup c_LackError=some (excClassObj nm_LackError qn_LackError c_LackError N_LackError bs_LackError bm_LackError hdct_LackError sn_LackError sub_LackError ab_LackError col_LackError dd_LackError k0_LackError k1_LackError k2_LackError k3_LackError k5_LackError "ValueError.__new__"))
    (kp_LackError:PySem.W.keepIn K (.ref c_LackError)=true)
    (ha_LackError:PySem.W.findIn K (.ref c_LackError) "__class__"=some (some (.builtin "object.__class__")))
    (i_LackError:PySem.W.findIn K (.ref c_LackError) "__init__"=some (some (.builtin "ValueError.__init__")))
    (rs_LackError:PySem.W.specialIn K (.ref c_LackError) "__getattribute__"=some (some (.builtin "type.__getattribute__")))
    (rr_LackError:PySem.W.readsIn K c_LackError (.type "type")=true)
    (rf_LackError:PySem.W.findCls K (.ref c_LackError) (.type "type") "__init__"=some (.val (.builtin "ValueError.__init__")))
    (a_NoWord:PySem.W.nsIn K mainGlobals "NoWord"=some (some (.ref c_NoWord)))
    (q_NoWord:PySem.W.clsIn K c_NoWord=some cd_NoWord)
    (r_NoWord:cd_NoWord.mro=[.ref c_NoWord,.ref c_LackError,.type "ValueError",.type "Exception",.type "BaseException",.type "object"])
    (ty_NoWord:PySem.W.typeIn K (.ref c_NoWord)=some (.type "type"))
    (ga_NoWord:PySem.W.findIn K (.ref c_NoWord) "__getattribute__"=some (some (.builtin "BaseException.__getattribute__")))
    (gr_NoWord:PySem.W.findIn K (.ref c_NoWord) "__getattr__"=some none)
    (sa_NoWord:PySem.W.findIn K (.ref c_NoWord) "__setattr__"=some (some (.builtin "object.__setattr__")))
    (hd_NoWord:PySem.W.hasDictIn K c_NoWord=true)
    (ob_NoWord:K.lookup c_NoWord=some (excClassObj nm_NoWord qn_NoWord c_NoWord N_NoWord bs_NoWord bm_NoWord hdct_NoWord sn_NoWord sub_NoWord ab_NoWord col_NoWord dd_NoWord k0_NoWord k1_NoWord k2_NoWord k3_NoWord k5_NoWord "ValueError.__new__"))
    (kp_NoWord:PySem.W.keepIn K (.ref c_NoWord)=true)
    (ha_NoWord:PySem.W.findIn K (.ref c_NoWord) "__class__"=some (some (.builtin "object.__class__")))
    (i_NoWord:PySem.W.findIn K (.ref c_NoWord) "__init__"=some (some (.ref g_NoWord_init)))
    (fn_NoWord:PySem.W.isFn K (.ref g_NoWord_init)=true)
    (l_INoWord:K.lookup g_NoWord_init=some ⟨oc_INoWord,od_INoWord,.func (PySem.W.fnOf "__init__" "NoWord.__init__" (defArgs s_NoWord_init) (defBody s_NoWord_init) (defScope s_NoWord_init) .none kV_INoWord dc_INoWord pm_INoWord an_INoWord cd_INoWord ct_INoWord),sl_INoWord⟩)
    (cc_INoWord:PySem.W.codeIn K cd_INoWord "NoWord.__init__"=true)
    (kk_INoWord:PySem.W.keepIn K (.ref g_NoWord_init)=true)
    (n_NoWord_word:PySem.W.findIn K (.ref c_NoWord) "word"=some none)
    (a_NoRing:PySem.W.nsIn K mainGlobals "NoRing"=some (some (.ref c_NoRing)))
    (q_NoRing:PySem.W.clsIn K c_NoRing=some cd_NoRing)
    (r_NoRing:cd_NoRing.mro=[.ref c_NoRing,.ref c_LackError,.type "ValueError",.type "Exception",.type "BaseException",.type "object"])
    (ty_NoRing:PySem.W.typeIn K (.ref c_NoRing)=some (.type "type"))
    (ga_NoRing:PySem.W.findIn K (.ref c_NoRing) "__getattribute__"=some (some (.builtin "BaseException.__getattribute__")))
    (gr_NoRing:PySem.W.findIn K (.ref c_NoRing) "__getattr__"=some none)
    (sa_NoRing:PySem.W.findIn K (.ref c_NoRing) "__setattr__"=some (some (.builtin "object.__setattr__")))
    (hd_NoRing:PySem.W.hasDictIn K c_NoRing=true)
    (ob_NoRing:K.lookup c_NoRing=some (excClassObj nm_NoRing qn_NoRing c_NoRing N_NoRing bs_NoRing bm_NoRing hdct_NoRing sn_NoRing sub_NoRing ab_NoRing col_NoRing dd_NoRing k0_NoRing k1_NoRing k2_NoRing k3_NoRing k5_NoRing "ValueError.__new__"))
    (kp_NoRing:PySem.W.keepIn K (.ref c_NoRing)=true)
    (ha_NoRing:PySem.W.findIn K (.ref c_NoRing) "__class__"=some (some (.builtin "object.__class__")))
    (i_NoRing:PySem.W.findIn K (.ref c_NoRing) "__init__"=some (some (.ref g_NoRing_init)))
    (fn_NoRing:PySem.W.isFn K (.ref g_NoRing_init)=true)
    (l_INoRing:K.lookup g_NoRing_init=some ⟨oc_INoRing,od_INoRing,.func (PySem.W.fnOf "__init__" "NoRing.__init__" (defArgs s_NoRing_init) (defBody s_NoRing_init) (defScope s_NoRing_init) .none kV_INoRing dc_INoRing pm_INoRing an_INoRing cd_INoRing ct_INoRing),sl_INoRing⟩)
    (cc_INoRing:PySem.W.codeIn K cd_INoRing "NoRing.__init__"=true)
    (kk_INoRing:PySem.W.keepIn K (.ref g_NoRing_init)=true)
    (n_NoRing_thing:PySem.W.findIn K (.ref c_NoRing) "thing"=some none)
    (a_NoKinds:PySem.W.nsIn K mainGlobals "NoKinds"=some (some (.ref c_NoKinds)))
    (q_NoKinds:PySem.W.clsIn K c_NoKinds=some cd_NoKinds)
    (r_NoKinds:cd_NoKinds.mro=[.ref c_NoKinds,.ref c_LackError,.type "ValueError",.type "Exception",.type "BaseException",.type "object"])
    (ty_NoKinds:PySem.W.typeIn K (.ref c_NoKinds)=some (.type "type"))
    (ga_NoKinds:PySem.W.findIn K (.ref c_NoKinds) "__getattribute__"=some (some (.builtin "BaseException.__getattribute__")))
    (gr_NoKinds:PySem.W.findIn K (.ref c_NoKinds) "__getattr__"=some none)
    (sa_NoKinds:PySem.W.findIn K (.ref c_NoKinds) "__setattr__"=some (some (.builtin "object.__setattr__")))
    (hd_NoKinds:PySem.W.hasDictIn K c_NoKinds=true)
    (ob_NoKinds:K.lookup c_NoKinds=some (excClassObj nm_NoKinds qn_NoKinds c_NoKinds N_NoKinds bs_NoKinds bm_NoKinds hdct_NoKinds sn_NoKinds sub_NoKinds ab_NoKinds col_NoKinds dd_NoKinds k0_NoKinds k1_NoKinds k2_NoKinds k3_NoKinds k5_NoKinds "ValueError.__new__"))
    (kp_NoKinds:PySem.W.keepIn K (.ref c_NoKinds)=true)
    (ha_NoKinds:PySem.W.findIn K (.ref c_NoKinds) "__class__"=some (some (.builtin "object.__class__")))
    (i_NoKinds:PySem.W.findIn K (.ref c_NoKinds) "__init__"=some (some (.builtin "ValueError.__init__")))
    (ow_hn:PySem.W.specialIn K (.builtin "object.__class__") "__get__"=some (some (.builtin "getset_descriptor.__get__")))
    (ow_tk:PySem.W.takesIn K (.builtin "object.__class__")=some true)
    (a_Band:PySem.W.nsIn K mainGlobals "Band"=some (some (.ref c_Band)))
    (pg_Band:PySem.W.plainGet K c_Band Str.empty=true)
    (hd_Band:PySem.W.hasDictIn K c_Band=true)
    (po_Band:PySem.W.plainOver K c_Band=true)
    (sa_Band:PySem.W.findIn K (.ref c_Band) "__setattr__"=some (some (.builtin "object.__setattr__")))
    (rs_Band:PySem.W.specialIn K (.ref c_Band) "__getattribute__"=some (some (.builtin "type.__getattribute__")))
    (rr_Band:PySem.W.readsIn K c_Band (.type "type")=true)
    (rf_Band:PySem.W.findCls K (.ref c_Band) (.type "type") "__init__"=some (.val (.ref g_Band_init)))
    (a_Ring:PySem.W.nsIn K mainGlobals "Ring"=some (some (.ref c_Ring)))
    (pg_Ring:PySem.W.plainGet K c_Ring Str.empty=true)
    (hd_Ring:PySem.W.hasDictIn K c_Ring=true)
    (po_Ring:PySem.W.plainOver K c_Ring=true)
    (sa_Ring:PySem.W.findIn K (.ref c_Ring) "__setattr__"=some (some (.builtin "object.__setattr__")))
    (rs_Ring:PySem.W.specialIn K (.ref c_Ring) "__getattribute__"=some (some (.builtin "type.__getattribute__")))
    (rr_Ring:PySem.W.readsIn K c_Ring (.type "type")=true)
    (rf_Ring:PySem.W.findCls K (.ref c_Ring) (.type "type") "__init__"=some (.val (.ref g_Ring_init)))
    (mk_Ring:PySem.W.makesIn K c_Ring=true)
    (in_Ring:PySem.W.findIn K (.ref c_Ring) "__init__"=some (some (.ref g_Ring_init)))
    (kc_Ring:PySem.W.keepIn K (.ref c_Ring)=true)
    (ha_Ring:PySem.W.findIn K (.ref c_Ring) "__class__"=some (some (.builtin "object.__class__")))
    (mo_Ring:PySem.W.mroIn K c_Ring (.type "object")=some true)
    (me_Ring_text:PySem.W.findIn K (.ref c_Ring) "text"=some (some (.ref g_Band_text)))
    (me_Ring_words:PySem.W.findIn K (.ref c_Ring) "words"=some (some (.ref g_Band_words)))
    (me_Ring_laid_out:PySem.W.findIn K (.ref c_Ring) "laid_out"=some (some (.ref g_Ring_laid_out)))
    (me_Ring_stands:PySem.W.findIn K (.ref c_Ring) "stands"=some (some (.ref g_Band_stands)))
    (me_Ring_place_of:PySem.W.findIn K (.ref c_Ring) "place_of"=some (some (.ref g_Band_place_of)))
    (me_Ring_reach:PySem.W.findIn K (.ref c_Ring) "reach"=some (some (.ref g_Ring_reach)))
    (me_Ring_root:PySem.W.findIn K (.ref c_Ring) "root"=some (some (.ref g_Ring_root)))
    (me_Ring_lacking:PySem.W.findIn K (.ref c_Ring) "lacking"=some (some (.ref g_Band_lacking)))
    (me_Ring_turned:PySem.W.findIn K (.ref c_Ring) "turned"=some (some (.ref g_Ring_turned)))
    (n_Ring_own_text:PySem.W.findIn K (.ref c_Ring) "own_text"=some none)
    (n_Ring_own_kinds:PySem.W.findIn K (.ref c_Ring) "own_kinds"=some none)
    (l_MBand_init:K.lookup g_Band_init=some ⟨oc_MBand_init,od_MBand_init,.func (PySem.W.fnOf "__init__" "Band.__init__" (defArgs s_Band_init) (defBody s_Band_init) (defScope s_Band_init) .none kV_MBand_init dc_MBand_init pm_MBand_init an_MBand_init cd_MBand_init ct_MBand_init),sl_MBand_init⟩)
    (cc_MBand_init:PySem.W.codeIn K cd_MBand_init "Band.__init__"=true)
    (kk_MBand_init:PySem.W.keepIn K (.ref g_Band_init)=true)
    (fn_MBand_init:PySem.W.isFn K (.ref g_Band_init)=true)
    (l_MBand_text:K.lookup g_Band_text=some ⟨oc_MBand_text,od_MBand_text,.func (PySem.W.fnOf "text" "Band.text" (defArgs s_Band_text) (defBody s_Band_text) (defScope s_Band_text) .none kV_MBand_text dc_MBand_text pm_MBand_text an_MBand_text cd_MBand_text ct_MBand_text),sl_MBand_text⟩)
    (cc_MBand_text:PySem.W.codeIn K cd_MBand_text "Band.text"=true)
    (kk_MBand_text:PySem.W.keepIn K (.ref g_Band_text)=true)
    (fn_MBand_text:PySem.W.isFn K (.ref g_Band_text)=true)
    (l_MBand_words:K.lookup g_Band_words=some ⟨oc_MBand_words,od_MBand_words,.func (PySem.W.fnOf "words" "Band.words" (defArgs s_Band_words) (defBody s_Band_words) (defScope s_Band_words) .none kV_MBand_words dc_MBand_words pm_MBand_words an_MBand_words cd_MBand_words ct_MBand_words),sl_MBand_words⟩)
    (cc_MBand_words:PySem.W.codeIn K cd_MBand_words "Band.words"=true)
    (kk_MBand_words:PySem.W.keepIn K (.ref g_Band_words)=true)
    (fn_MBand_words:PySem.W.isFn K (.ref g_Band_words)=true)
    (l_MBand_stands:K.lookup g_Band_stands=some ⟨oc_MBand_stands,od_MBand_stands,.func (PySem.W.fnOf "stands" "Band.stands" (defArgs s_Band_stands) (defBody s_Band_stands) (defScope s_Band_stands) .none kV_MBand_stands dc_MBand_stands pm_MBand_stands an_MBand_stands cd_MBand_stands ct_MBand_stands),sl_MBand_stands⟩)
    (cc_MBand_stands:PySem.W.codeIn K cd_MBand_stands "Band.stands"=true)
    (kk_MBand_stands:PySem.W.keepIn K (.ref g_Band_stands)=true)
    (fn_MBand_stands:PySem.W.isFn K (.ref g_Band_stands)=true)
    (l_MBand_place_of:K.lookup g_Band_place_of=some ⟨oc_MBand_place_of,od_MBand_place_of,.func (PySem.W.fnOf "place_of" "Band.place_of" (defArgs s_Band_place_of) (defBody s_Band_place_of) (defScope s_Band_place_of) .none kV_MBand_place_of dc_MBand_place_of pm_MBand_place_of an_MBand_place_of cd_MBand_place_of ct_MBand_place_of),sl_MBand_place_of⟩)
    (cc_MBand_place_of:PySem.W.codeIn K cd_MBand_place_of "Band.place_of"=true)
    (kk_MBand_place_of:PySem.W.keepIn K (.ref g_Band_place_of)=true)
    (fn_MBand_place_of:PySem.W.isFn K (.ref g_Band_place_of)=true)
    (l_MBand_lacking:K.lookup g_Band_lacking=some ⟨oc_MBand_lacking,od_MBand_lacking,.func (PySem.W.fnOf "lacking" "Band.lacking" (defArgs s_Band_lacking) (defBody s_Band_lacking) (defScope s_Band_lacking) .none kV_MBand_lacking dc_MBand_lacking pm_MBand_lacking an_MBand_lacking cd_MBand_lacking ct_MBand_lacking),sl_MBand_lacking⟩)
    (cc_MBand_lacking:PySem.W.codeIn K cd_MBand_lacking "Band.lacking"=true)
    (kk_MBand_lacking:PySem.W.keepIn K (.ref g_Band_lacking)=true)
    (fn_MBand_lacking:PySem.W.isFn K (.ref g_Band_lacking)=true)
    (l_MRing_init:K.lookup g_Ring_init=some ⟨oc_MRing_init,od_MRing_init,.func (PySem.W.fnOf "__init__" "Ring.__init__" (defArgs s_Ring_init) (defBody s_Ring_init) (defScope s_Ring_init) .none kV_MRing_init dc_MRing_init pm_MRing_init an_MRing_init cd_MRing_init ct_MRing_init),sl_MRing_init⟩)
    (cc_MRing_init:PySem.W.codeIn K cd_MRing_init "Ring.__init__"=true)
    (kk_MRing_init:PySem.W.keepIn K (.ref g_Ring_init)=true)
    (fn_MRing_init:PySem.W.isFn K (.ref g_Ring_init)=true)
    (l_MRing_laid_out:K.lookup g_Ring_laid_out=some ⟨oc_MRing_laid_out,od_MRing_laid_out,.func (PySem.W.fnOf "laid_out" "Ring.laid_out" (defArgs s_Ring_laid_out) (defBody s_Ring_laid_out) (defScope s_Ring_laid_out) .none kV_MRing_laid_out dc_MRing_laid_out pm_MRing_laid_out an_MRing_laid_out cd_MRing_laid_out ct_MRing_laid_out),sl_MRing_laid_out⟩)
    (cc_MRing_laid_out:PySem.W.codeIn K cd_MRing_laid_out "Ring.laid_out"=true)
    (kk_MRing_laid_out:PySem.W.keepIn K (.ref g_Ring_laid_out)=true)
    (fn_MRing_laid_out:PySem.W.isFn K (.ref g_Ring_laid_out)=true)
    (l_MRing_root:K.lookup g_Ring_root=some ⟨oc_MRing_root,od_MRing_root,.func (PySem.W.fnOf "root" "Ring.root" (defArgs s_Ring_root) (defBody s_Ring_root) (defScope s_Ring_root) .none kV_MRing_root dc_MRing_root pm_MRing_root an_MRing_root cd_MRing_root ct_MRing_root),sl_MRing_root⟩)
    (cc_MRing_root:PySem.W.codeIn K cd_MRing_root "Ring.root"=true)
    (kk_MRing_root:PySem.W.keepIn K (.ref g_Ring_root)=true)
    (fn_MRing_root:PySem.W.isFn K (.ref g_Ring_root)=true)
    (l_MRing_reach:K.lookup g_Ring_reach=some ⟨oc_MRing_reach,od_MRing_reach,.func (PySem.W.fnOf "reach" "Ring.reach" (defArgs s_Ring_reach) (defBody s_Ring_reach) (defScope s_Ring_reach) .none kV_MRing_reach dc_MRing_reach pm_MRing_reach an_MRing_reach cd_MRing_reach ct_MRing_reach),sl_MRing_reach⟩)
    (cc_MRing_reach:PySem.W.codeIn K cd_MRing_reach "Ring.reach"=true)
    (kk_MRing_reach:PySem.W.keepIn K (.ref g_Ring_reach)=true)
    (fn_MRing_reach:PySem.W.isFn K (.ref g_Ring_reach)=true)
    (l_MRing_turned:K.lookup g_Ring_turned=some ⟨oc_MRing_turned,od_MRing_turned,.func (PySem.W.fnOf "turned" "Ring.turned" (defArgs s_Ring_turned) (defBody s_Ring_turned) (defScope s_Ring_turned) .none kV_MRing_turned dc_MRing_turned pm_MRing_turned an_MRing_turned cd_MRing_turned ct_MRing_turned),sl_MRing_turned⟩)
    (cc_MRing_turned:PySem.W.codeIn K cd_MRing_turned "Ring.turned"=true)
    (kk_MRing_turned:PySem.W.keepIn K (.ref g_Ring_turned)=true)
    (fn_MRing_turned:PySem.W.isFn K (.ref g_Ring_turned)=true)
    (nd:[c_LackError,c_NoWord,c_NoRing,c_NoKinds].Nodup)
    (a_has_only:PySem.W.nsIn K mainGlobals "has_only"=some (some (.ref f_has_only)))
    (l_has_only:K.lookup f_has_only=some ⟨oc_has_only,od_has_only,.func (PySem.W.fnOf "has_only" "has_only" (defArgs s_has_only) (defBody s_has_only) (defScope s_has_only) .none kV_has_only dc_has_only pm_has_only an_has_only cd_has_only ct_has_only),sl_has_only⟩)
    (cc_has_only:PySem.W.codeIn K cd_has_only "has_only"=true)
    (kk_has_only:PySem.W.keepIn K (.ref f_has_only)=true)
    (a_is_kinds:PySem.W.nsIn K mainGlobals "is_kinds"=some (some (.ref f_is_kinds)))
    (l_is_kinds:K.lookup f_is_kinds=some ⟨oc_is_kinds,od_is_kinds,.func (PySem.W.fnOf "is_kinds" "is_kinds" (defArgs s_is_kinds) (defBody s_is_kinds) (defScope s_is_kinds) .none kV_is_kinds dc_is_kinds pm_is_kinds an_is_kinds cd_is_kinds ct_is_kinds),sl_is_kinds⟩)
    (cc_is_kinds:PySem.W.codeIn K cd_is_kinds "is_kinds"=true)
    (kk_is_kinds:PySem.W.keepIn K (.ref f_is_kinds)=true)
    (a_is_word:PySem.W.nsIn K mainGlobals "is_word"=some (some (.ref f_is_word)))
    (l_is_word:K.lookup f_is_word=some ⟨oc_is_word,od_is_word,.func (PySem.W.fnOf "is_word" "is_word" (defArgs s_is_word) (defBody s_is_word) (defScope s_is_word) .none kV_is_word dc_is_word pm_is_word an_is_word cd_is_word ct_is_word),sl_is_word⟩)
    (cc_is_word:PySem.W.codeIn K cd_is_word "is_word"=true)
    (kk_is_word:PySem.W.keepIn K (.ref f_is_word)=true)
    (a_need_kinds:PySem.W.nsIn K mainGlobals "need_kinds"=some (some (.ref f_need_kinds)))
    (l_need_kinds:K.lookup f_need_kinds=some ⟨oc_need_kinds,od_need_kinds,.func (PySem.W.fnOf "need_kinds" "need_kinds" (defArgs s_need_kinds) (defBody s_need_kinds) (defScope s_need_kinds) .none kV_need_kinds dc_need_kinds pm_need_kinds an_need_kinds cd_need_kinds ct_need_kinds),sl_need_kinds⟩)
    (cc_need_kinds:PySem.W.codeIn K cd_need_kinds "need_kinds"=true)
    (kk_need_kinds:PySem.W.keepIn K (.ref f_need_kinds)=true)
    (a_need_word:PySem.W.nsIn K mainGlobals "need_word"=some (some (.ref f_need_word)))
    (l_need_word:K.lookup f_need_word=some ⟨oc_need_word,od_need_word,.func (PySem.W.fnOf "need_word" "need_word" (defArgs s_need_word) (defBody s_need_word) (defScope s_need_word) .none kV_need_word dc_need_word pm_need_word an_need_word cd_need_word ct_need_word),sl_need_word⟩)
    (cc_need_word:PySem.W.codeIn K cd_need_word "need_word"=true)
    (kk_need_word:PySem.W.keepIn K (.ref f_need_word)=true)
    (a_places:PySem.W.nsIn K mainGlobals "places"=some (some (.ref f_places)))
    (l_places:K.lookup f_places=some ⟨oc_places,od_places,.func (PySem.W.fnOf "places" "places" (defArgs s_places) (defBody s_places) (defScope s_places) .none kV_places dc_places pm_places an_places cd_places ct_places),sl_places⟩)
    (cc_places:PySem.W.codeIn K cd_places "places"=true)
    (kk_places:PySem.W.keepIn K (.ref f_places)=true)
    (a_pieces:PySem.W.nsIn K mainGlobals "pieces"=some (some (.ref f_pieces)))
    (l_pieces:K.lookup f_pieces=some ⟨oc_pieces,od_pieces,.func (PySem.W.fnOf "pieces" "pieces" (defArgs s_pieces) (defBody s_pieces) (defScope s_pieces) .none kV_pieces dc_pieces pm_pieces an_pieces cd_pieces ct_pieces),sl_pieces⟩)
    (cc_pieces:PySem.W.codeIn K cd_pieces "pieces"=true)
    (kk_pieces:PySem.W.keepIn K (.ref f_pieces)=true)
    (a_among:PySem.W.nsIn K mainGlobals "lacking_among"=some (some (.ref f_among)))
    (l_among:K.lookup f_among=some ⟨oc_among,od_among,.func (PySem.W.fnOf "lacking_among" "lacking_among" (defArgs s_among) (defBody s_among) (defScope s_among) .none kV_among dc_among pm_among an_among cd_among ct_among),sl_among⟩)
    (cc_among:PySem.W.codeIn K cd_among "lacking_among"=true)
    (kk_among:PySem.W.keepIn K (.ref f_among)=true)
    (a_lcell:PySem.W.nsIn K mainGlobals "_law_cell"=some (some (.ref f_lcell)))
    (l_lcell:K.lookup f_lcell=some ⟨oc_lcell,od_lcell,.func (PySem.W.fnOf "_law_cell" "_law_cell" (defArgs s_lcell) (defBody s_lcell) (defScope s_lcell) .none kV_lcell dc_lcell pm_lcell an_lcell cd_lcell ct_lcell),sl_lcell⟩)
    (cc_lcell:PySem.W.codeIn K cd_lcell "_law_cell"=true)
    (kk_lcell:PySem.W.keepIn K (.ref f_lcell)=true)
    (a_mixed:PySem.W.nsIn K mainGlobals "_law_mixed"=some (some (.ref f_mixed)))
    (l_mixed:K.lookup f_mixed=some ⟨oc_mixed,od_mixed,.func (PySem.W.fnOf "_law_mixed" "_law_mixed" (defArgs s_mixed) (defBody s_mixed) (defScope s_mixed) .none kV_mixed dc_mixed pm_mixed an_mixed cd_mixed ct_mixed),sl_mixed⟩)
    (cc_mixed:PySem.W.codeIn K cd_mixed "_law_mixed"=true)
    (kk_mixed:PySem.W.keepIn K (.ref f_mixed)=true)
    (a_lkinds:PySem.W.nsIn K mainGlobals "_law_kinds"=some (some (.ref f_lkinds)))
    (l_lkinds:K.lookup f_lkinds=some ⟨oc_lkinds,od_lkinds,.func (PySem.W.fnOf "_law_kinds" "_law_kinds" (defArgs s_lkinds) (defBody s_lkinds) (defScope s_lkinds) .none kV_lkinds dc_lkinds pm_lkinds an_lkinds cd_lkinds ct_lkinds),sl_lkinds⟩)
    (cc_lkinds:PySem.W.codeIn K cd_lkinds "_law_kinds"=true)
    (kk_lkinds:PySem.W.keepIn K (.ref f_lkinds)=true)
    (a_letters:PySem.W.nsIn K mainGlobals "_law_letters"=some (some (.ref f_letters)))
    (l_letters:K.lookup f_letters=some ⟨oc_letters,od_letters,.func (PySem.W.fnOf "_law_letters" "_law_letters" (defArgs s_letters) (defBody s_letters) (defScope s_letters) .none kV_letters dc_letters pm_letters an_letters cd_letters ct_letters),sl_letters⟩)
    (cc_letters:PySem.W.codeIn K cd_letters "_law_letters"=true)
    (kk_letters:PySem.W.keepIn K (.ref f_letters)=true)
    (a_lring:PySem.W.nsIn K mainGlobals "_law_ring"=some (some (.ref f_lring)))
    (l_lring:K.lookup f_lring=some ⟨oc_lring,od_lring,.func (PySem.W.fnOf "_law_ring" "_law_ring" (defArgs s_lring) (defBody s_lring) (defScope s_lring) .none kV_lring dc_lring pm_lring an_lring cd_lring ct_lring),sl_lring⟩)
    (cc_lring:PySem.W.codeIn K cd_lring "_law_ring"=true)
    (kk_lring:PySem.W.keepIn K (.ref f_lring)=true)
    (a_lwords:PySem.W.nsIn K mainGlobals "_law_words"=some (some (.ref f_lwords)))
    (l_lwords:K.lookup f_lwords=some ⟨oc_lwords,od_lwords,.func (PySem.W.fnOf "_law_words" "_law_words" (defArgs s_lwords) (defBody s_lwords) (defScope s_lwords) .none kV_lwords dc_lwords pm_lwords an_lwords cd_lwords ct_lwords),sl_lwords⟩)
    (cc_lwords:PySem.W.codeIn K cd_lwords "_law_words"=true)
    (kk_lwords:PySem.W.keepIn K (.ref f_lwords)=true)
    (a_missing:PySem.W.nsIn K mainGlobals "_law_missing"=some (some (.ref f_missing)))
    (l_missing:K.lookup f_missing=some ⟨oc_missing,od_missing,.func (PySem.W.fnOf "_law_missing" "_law_missing" (defArgs s_missing) (defBody s_missing) (defScope s_missing) .none kV_missing dc_missing pm_missing an_missing cd_missing ct_missing),sl_missing⟩)
    (cc_missing:PySem.W.codeIn K cd_missing "_law_missing"=true)
    (kk_missing:PySem.W.keepIn K (.ref f_missing)=true)
    (a_asked:PySem.W.nsIn K mainGlobals "_law_asked"=some (some (.ref f_asked)))
    (l_asked:K.lookup f_asked=some ⟨oc_asked,od_asked,.func (PySem.W.fnOf "_law_asked" "_law_asked" (defArgs s_asked) (defBody s_asked) (defScope s_asked) .none kV_asked dc_asked pm_asked an_asked cd_asked ct_asked),sl_asked⟩)
    (cc_asked:PySem.W.codeIn K cd_asked "_law_asked"=true)
    (kk_asked:PySem.W.keepIn K (.ref f_asked)=true)
    (a_law:PySem.W.nsIn K mainGlobals "law"=some (some (.ref f_law)))
    (l_law:K.lookup f_law=some ⟨oc_law,od_law,.func (PySem.W.fnOf "law" "law" (defArgs s_law) (defBody s_law) (defScope s_law) .none kV_law dc_law pm_law an_law cd_law ct_law),sl_law⟩)
    (cc_law:PySem.W.codeIn K cd_law "law"=true)
    (kk_law:PySem.W.keepIn K (.ref f_law)=true)
    (z_len:PySem.W.nsIn K mainGlobals "len"=some none)
    (z_range:PySem.W.nsIn K mainGlobals "range"=some none)
    (z_isinstance:PySem.W.nsIn K mainGlobals "isinstance"=some none)
    (z_all:PySem.W.nsIn K mainGlobals "all"=some none)
    (z_list:PySem.W.nsIn K mainGlobals "list"=some none)
    (z_set:PySem.W.nsIn K mainGlobals "set"=some none)
    (z_sorted:PySem.W.nsIn K mainGlobals "sorted"=some none)
    (z_str:PySem.W.nsIn K mainGlobals "str"=some none)
    (z_int:PySem.W.nsIn K mainGlobals "int"=some none)
    (z_ValueError:PySem.W.nsIn K mainGlobals "ValueError"=some none)
    (c_SMALL_LETTERS:PySem.W.nsIn K mainGlobals "SMALL_LETTERS"=some (some (.str (Str.ofString "abcdefghijklmnopqrstuvwxyz") tk_SMALL_LETTERS)))
    (c_MOST_KINDS:PySem.W.nsIn K mainGlobals "MOST_KINDS"=some (some (.int 4 tk_MOST_KINDS)))
    (c_MOST_ASKED:PySem.W.nsIn K mainGlobals "MOST_ASKED"=some (some (.int 60 tk_MOST_ASKED)))
    (c_MOST_IN_RING:PySem.W.nsIn K mainGlobals "MOST_IN_RING"=some (some (.int 20 tk_MOST_IN_RING))):∃ a,Txt K mg a∧a.t_missing=t_missing∧a.k_missing=k_missing:=by
  have xc_LackError:Xc K c_LackError:=⟨ga_LackError,gr_LackError,sa_LackError,hd_LackError,by rw[q_LackError];show xmro cd_LackError.mro=true;rw[r_LackError];rfl⟩
  have xc_NoWord:Xc K c_NoWord:=⟨ga_NoWord,gr_NoWord,sa_NoWord,hd_NoWord,by rw[q_NoWord];show xmro cd_NoWord.mro=true;rw[r_NoWord];rfl⟩
  have F_INoWord:=fun_mk (st:=s_NoWord_init) l_INoWord cc_INoWord kk_INoWord
  have xc_NoRing:Xc K c_NoRing:=⟨ga_NoRing,gr_NoRing,sa_NoRing,hd_NoRing,by rw[q_NoRing];show xmro cd_NoRing.mro=true;rw[r_NoRing];rfl⟩
  have F_INoRing:=fun_mk (st:=s_NoRing_init) l_INoRing cc_INoRing kk_INoRing
  have xc_NoKinds:Xc K c_NoKinds:=⟨ga_NoKinds,gr_NoKinds,sa_NoKinds,hd_NoKinds,by rw[q_NoKinds];show xmro cd_NoKinds.mro=true;rw[r_NoKinds];rfl⟩
  have F_has_only:=fun_mk (st:=s_has_only) l_has_only cc_has_only kk_has_only
  have F_is_kinds:=fun_mk (st:=s_is_kinds) l_is_kinds cc_is_kinds kk_is_kinds
  have F_is_word:=fun_mk (st:=s_is_word) l_is_word cc_is_word kk_is_word
  have F_need_kinds:=fun_mk (st:=s_need_kinds) l_need_kinds cc_need_kinds kk_need_kinds
  have F_need_word:=fun_mk (st:=s_need_word) l_need_word cc_need_word kk_need_word
  have F_places:=fun_mk (st:=s_places) l_places cc_places kk_places
  have F_pieces:=fun_mk (st:=s_pieces) l_pieces cc_pieces kk_pieces
  have F_among:=fun_mk (st:=s_among) l_among cc_among kk_among
  have F_lcell:=fun_mk (st:=s_lcell) l_lcell cc_lcell kk_lcell
  have F_mixed:=fun_mk (st:=s_mixed) l_mixed cc_mixed kk_mixed
  have F_lkinds:=fun_mk (st:=s_lkinds) l_lkinds cc_lkinds kk_lkinds
  have F_letters:=fun_mk (st:=s_letters) l_letters cc_letters kk_letters
  have F_lring:=fun_mk (st:=s_lring) l_lring cc_lring kk_lring
  have F_lwords:=fun_mk (st:=s_lwords) l_lwords cc_lwords kk_lwords
  have F_missing:=fun_mk (st:=s_missing) l_missing cc_missing kk_missing
  have F_asked:=fun_mk (st:=s_asked) l_asked cc_asked kk_asked
  have F_law:=fun_mk (st:=s_law) l_law cc_law kk_law
  have F_MBand_init:=fun_mk (st:=s_Band_init) l_MBand_init cc_MBand_init kk_MBand_init
  have F_MBand_text:=fun_mk (st:=s_Band_text) l_MBand_text cc_MBand_text kk_MBand_text
  have F_MBand_words:=fun_mk (st:=s_Band_words) l_MBand_words cc_MBand_words kk_MBand_words
  have F_MBand_stands:=fun_mk (st:=s_Band_stands) l_MBand_stands cc_MBand_stands kk_MBand_stands
  have F_MBand_place_of:=fun_mk (st:=s_Band_place_of) l_MBand_place_of cc_MBand_place_of kk_MBand_place_of
  have F_MBand_lacking:=fun_mk (st:=s_Band_lacking) l_MBand_lacking cc_MBand_lacking kk_MBand_lacking
  have F_MRing_init:=fun_mk (st:=s_Ring_init) l_MRing_init cc_MRing_init kk_MRing_init
  have F_MRing_laid_out:=fun_mk (st:=s_Ring_laid_out) l_MRing_laid_out cc_MRing_laid_out kk_MRing_laid_out
  have F_MRing_root:=fun_mk (st:=s_Ring_root) l_MRing_root cc_MRing_root kk_MRing_root
  have F_MRing_reach:=fun_mk (st:=s_Ring_reach) l_MRing_reach cc_MRing_reach kk_MRing_reach
  have F_MRing_turned:=fun_mk (st:=s_Ring_turned) l_MRing_turned cc_MRing_turned kk_MRing_turned
  refine ⟨{ c_LackError:=c_LackError,g_NoWord_init:=g_NoWord_init,e_NoWord_init:=PySem.W.fnOf "__init__" "NoWord.__init__" (defArgs s_NoWord_init) (defBody s_NoWord_init) (defScope s_NoWord_init) .none kV_INoWord dc_INoWord pm_INoWord an_INoWord cd_INoWord ct_INoWord,c_NoWord:=c_NoWord,g_NoRing_init:=g_NoRing_init,e_NoRing_init:=PySem.W.fnOf "__init__" "NoRing.__init__" (defArgs s_NoRing_init) (defBody s_NoRing_init) (defScope s_NoRing_init) .none kV_INoRing dc_INoRing pm_INoRing an_INoRing cd_INoRing ct_INoRing,c_NoRing:=c_NoRing,c_NoKinds:=c_NoKinds,c_Band:=c_Band,c_Ring:=c_Ring,g_Band_init:=g_Band_init,e_Band_init:=PySem.W.fnOf "__init__" "Band.__init__" (defArgs s_Band_init) (defBody s_Band_init) (defScope s_Band_init) .none kV_MBand_init dc_MBand_init pm_MBand_init an_MBand_init cd_MBand_init ct_MBand_init,g_Band_text:=g_Band_text,e_Band_text:=PySem.W.fnOf "text" "Band.text" (defArgs s_Band_text) (defBody s_Band_text) (defScope s_Band_text) .none kV_MBand_text dc_MBand_text pm_MBand_text an_MBand_text cd_MBand_text ct_MBand_text,g_Band_words:=g_Band_words,e_Band_words:=PySem.W.fnOf "words" "Band.words" (defArgs s_Band_words) (defBody s_Band_words) (defScope s_Band_words) .none kV_MBand_words dc_MBand_words pm_MBand_words an_MBand_words cd_MBand_words ct_MBand_words,g_Band_stands:=g_Band_stands,e_Band_stands:=PySem.W.fnOf "stands" "Band.stands" (defArgs s_Band_stands) (defBody s_Band_stands) (defScope s_Band_stands) .none kV_MBand_stands dc_MBand_stands pm_MBand_stands an_MBand_stands cd_MBand_stands ct_MBand_stands,g_Band_place_of:=g_Band_place_of,e_Band_place_of:=PySem.W.fnOf "place_of" "Band.place_of" (defArgs s_Band_place_of) (defBody s_Band_place_of) (defScope s_Band_place_of) .none kV_MBand_place_of dc_MBand_place_of pm_MBand_place_of an_MBand_place_of cd_MBand_place_of ct_MBand_place_of,g_Band_lacking:=g_Band_lacking,e_Band_lacking:=PySem.W.fnOf "lacking" "Band.lacking" (defArgs s_Band_lacking) (defBody s_Band_lacking) (defScope s_Band_lacking) .none kV_MBand_lacking dc_MBand_lacking pm_MBand_lacking an_MBand_lacking cd_MBand_lacking ct_MBand_lacking,g_Ring_init:=g_Ring_init,e_Ring_init:=PySem.W.fnOf "__init__" "Ring.__init__" (defArgs s_Ring_init) (defBody s_Ring_init) (defScope s_Ring_init) .none kV_MRing_init dc_MRing_init pm_MRing_init an_MRing_init cd_MRing_init ct_MRing_init,g_Ring_laid_out:=g_Ring_laid_out,e_Ring_laid_out:=PySem.W.fnOf "laid_out" "Ring.laid_out" (defArgs s_Ring_laid_out) (defBody s_Ring_laid_out) (defScope s_Ring_laid_out) .none kV_MRing_laid_out dc_MRing_laid_out pm_MRing_laid_out an_MRing_laid_out cd_MRing_laid_out ct_MRing_laid_out,g_Ring_root:=g_Ring_root,e_Ring_root:=PySem.W.fnOf "root" "Ring.root" (defArgs s_Ring_root) (defBody s_Ring_root) (defScope s_Ring_root) .none kV_MRing_root dc_MRing_root pm_MRing_root an_MRing_root cd_MRing_root ct_MRing_root,g_Ring_reach:=g_Ring_reach,e_Ring_reach:=PySem.W.fnOf "reach" "Ring.reach" (defArgs s_Ring_reach) (defBody s_Ring_reach) (defScope s_Ring_reach) .none kV_MRing_reach dc_MRing_reach pm_MRing_reach an_MRing_reach cd_MRing_reach ct_MRing_reach,g_Ring_turned:=g_Ring_turned,e_Ring_turned:=PySem.W.fnOf "turned" "Ring.turned" (defArgs s_Ring_turned) (defBody s_Ring_turned) (defScope s_Ring_turned) .none kV_MRing_turned dc_MRing_turned pm_MRing_turned an_MRing_turned cd_MRing_turned ct_MRing_turned,f_has_only:=f_has_only,d_has_only:=PySem.W.fnOf "has_only" "has_only" (defArgs s_has_only) (defBody s_has_only) (defScope s_has_only) .none kV_has_only dc_has_only pm_has_only an_has_only cd_has_only ct_has_only,f_is_kinds:=f_is_kinds,d_is_kinds:=PySem.W.fnOf "is_kinds" "is_kinds" (defArgs s_is_kinds) (defBody s_is_kinds) (defScope s_is_kinds) .none kV_is_kinds dc_is_kinds pm_is_kinds an_is_kinds cd_is_kinds ct_is_kinds,f_is_word:=f_is_word,d_is_word:=PySem.W.fnOf "is_word" "is_word" (defArgs s_is_word) (defBody s_is_word) (defScope s_is_word) .none kV_is_word dc_is_word pm_is_word an_is_word cd_is_word ct_is_word,f_need_kinds:=f_need_kinds,d_need_kinds:=PySem.W.fnOf "need_kinds" "need_kinds" (defArgs s_need_kinds) (defBody s_need_kinds) (defScope s_need_kinds) .none kV_need_kinds dc_need_kinds pm_need_kinds an_need_kinds cd_need_kinds ct_need_kinds,f_need_word:=f_need_word,d_need_word:=PySem.W.fnOf "need_word" "need_word" (defArgs s_need_word) (defBody s_need_word) (defScope s_need_word) .none kV_need_word dc_need_word pm_need_word an_need_word cd_need_word ct_need_word,f_places:=f_places,d_places:=PySem.W.fnOf "places" "places" (defArgs s_places) (defBody s_places) (defScope s_places) .none kV_places dc_places pm_places an_places cd_places ct_places,f_pieces:=f_pieces,d_pieces:=PySem.W.fnOf "pieces" "pieces" (defArgs s_pieces) (defBody s_pieces) (defScope s_pieces) .none kV_pieces dc_pieces pm_pieces an_pieces cd_pieces ct_pieces,f_among:=f_among,d_among:=PySem.W.fnOf "lacking_among" "lacking_among" (defArgs s_among) (defBody s_among) (defScope s_among) .none kV_among dc_among pm_among an_among cd_among ct_among,f_lcell:=f_lcell,d_lcell:=PySem.W.fnOf "_law_cell" "_law_cell" (defArgs s_lcell) (defBody s_lcell) (defScope s_lcell) .none kV_lcell dc_lcell pm_lcell an_lcell cd_lcell ct_lcell,f_mixed:=f_mixed,d_mixed:=PySem.W.fnOf "_law_mixed" "_law_mixed" (defArgs s_mixed) (defBody s_mixed) (defScope s_mixed) .none kV_mixed dc_mixed pm_mixed an_mixed cd_mixed ct_mixed,f_lkinds:=f_lkinds,d_lkinds:=PySem.W.fnOf "_law_kinds" "_law_kinds" (defArgs s_lkinds) (defBody s_lkinds) (defScope s_lkinds) .none kV_lkinds dc_lkinds pm_lkinds an_lkinds cd_lkinds ct_lkinds,f_letters:=f_letters,d_letters:=PySem.W.fnOf "_law_letters" "_law_letters" (defArgs s_letters) (defBody s_letters) (defScope s_letters) .none kV_letters dc_letters pm_letters an_letters cd_letters ct_letters,f_lring:=f_lring,d_lring:=PySem.W.fnOf "_law_ring" "_law_ring" (defArgs s_lring) (defBody s_lring) (defScope s_lring) .none kV_lring dc_lring pm_lring an_lring cd_lring ct_lring,f_lwords:=f_lwords,d_lwords:=PySem.W.fnOf "_law_words" "_law_words" (defArgs s_lwords) (defBody s_lwords) (defScope s_lwords) .none kV_lwords dc_lwords pm_lwords an_lwords cd_lwords ct_lwords,f_missing:=f_missing,d_missing:=PySem.W.fnOf "_law_missing" "_law_missing" (defArgs s_missing) (defBody s_missing) (defScope s_missing) .none kV_missing dc_missing pm_missing an_missing cd_missing ct_missing,f_asked:=f_asked,d_asked:=PySem.W.fnOf "_law_asked" "_law_asked" (defArgs s_asked) (defBody s_asked) (defScope s_asked) .none kV_asked dc_asked pm_asked an_asked cd_asked ct_asked,f_law:=f_law,d_law:=PySem.W.fnOf "law" "law" (defArgs s_law) (defBody s_law) (defScope s_law) .none kV_law dc_law pm_law an_law cd_law ct_law,t_missing:=t_missing,k_missing:=k_missing },{ m_has_only:=PySem.W.mg_of X G a_has_only,f_has_only:=F_has_only,b_has_only:=F_has_only.binds (ps:=["text","letters"]) fun _ _ _ _ _ _ us hl=>match us,hl with | [_,_],_=>rfl,m_is_kinds:=PySem.W.mg_of X G a_is_kinds,f_is_kinds:=F_is_kinds,b_is_kinds:=F_is_kinds.binds (ps:=["thing"]) fun _ _ _ _ _ _ us hl=>match us,hl with | [_],_=>rfl,m_is_word:=PySem.W.mg_of X G a_is_word,f_is_word:=F_is_word,b_is_word:=F_is_word.binds (ps:=["thing","kinds","most"]) fun _ _ _ _ _ _ us hl=>match us,hl with | [_,_,_],_=>rfl,m_need_kinds:=PySem.W.mg_of X G a_need_kinds,f_need_kinds:=F_need_kinds,b_need_kinds:=F_need_kinds.binds (ps:=["thing"]) fun _ _ _ _ _ _ us hl=>match us,hl with | [_],_=>rfl,m_need_word:=PySem.W.mg_of X G a_need_word,f_need_word:=F_need_word,b_need_word:=F_need_word.binds (ps:=["thing","kinds","most"]) fun _ _ _ _ _ _ us hl=>match us,hl with | [_,_,_],_=>rfl,m_places:=PySem.W.mg_of X G a_places,f_places:=F_places,b_places:=F_places.binds (ps:=["text","word"]) fun _ _ _ _ _ _ us hl=>match us,hl with | [_,_],_=>rfl,m_pieces:=PySem.W.mg_of X G a_pieces,f_pieces:=F_pieces,b_pieces:=F_pieces.binds (ps:=["text","length"]) fun _ _ _ _ _ _ us hl=>match us,hl with | [_,_],_=>rfl,m_among:=PySem.W.mg_of X G a_among,f_among:=F_among,b_among:=F_among.binds (ps:=["shorter","standing","kinds"]) fun _ _ _ _ _ _ us hl=>match us,hl with | [_,_,_],_=>rfl,m_lcell:=PySem.W.mg_of X G a_lcell,f_lcell:=F_lcell,b_lcell:=F_lcell.binds (ps:=["_law_script","_law_k"]) fun _ _ _ _ _ _ us hl=>match us,hl with | [_,_],_=>rfl,m_mixed:=PySem.W.mg_of X G a_mixed,f_mixed:=F_mixed,b_mixed:=F_mixed.binds (ps:=["_law_cell_here","_law_k"]) fun _ _ _ _ _ _ us hl=>match us,hl with | [_,_],_=>rfl,m_lkinds:=PySem.W.mg_of X G a_lkinds,f_lkinds:=F_lkinds,b_lkinds:=F_lkinds.binds (ps:=["_law_cell_here"]) fun _ _ _ _ _ _ us hl=>match us,hl with | [_],_=>rfl,m_letters:=PySem.W.mg_of X G a_letters,f_letters:=F_letters,b_letters:=F_letters.binds (ps:=["_law_way","_law_cell_here","_law_kinds_here","_law_size"]) fun _ _ _ _ _ _ us hl=>match us,hl with | [_,_,_,_],_=>rfl,m_lring:=PySem.W.mg_of X G a_lring,f_lring:=F_lring,b_lring:=F_lring.binds (ps:=["_law_script","_law_at","_law_kinds_here"]) fun _ _ _ _ _ _ us hl=>match us,hl with | [_,_,_],_=>rfl,m_lwords:=PySem.W.mg_of X G a_lwords,f_lwords:=F_lwords,b_lwords:=F_lwords.binds (ps:=["_law_text","_law_length"]) fun _ _ _ _ _ _ us hl=>match us,hl with | [_,_],_=>rfl,m_missing:=PySem.W.mg_of X G a_missing,f_missing:=F_missing,b_missing:=F_missing.binds (ps:=["_law_text","_law_kinds_here"]) fun _ _ _ _ _ _ us hl=>match us,hl with | [_,_],_=>rfl,m_asked:=PySem.W.mg_of X G a_asked,f_asked:=F_asked,b_asked:=F_asked.binds (ps:=["_law_cell_here","_law_text","_law_kinds_here"]) fun _ _ _ _ _ _ us hl=>match us,hl with | [_,_,_],_=>rfl,m_law:=PySem.W.mg_of X G a_law,f_law:=F_law,b_law:=F_law.binds (ps:=["_law_script"]) fun _ _ _ _ _ _ us hl=>match us,hl with | [_],_=>rfl,m_LackError:=PySem.W.mg_of X G a_LackError,x_LackError:=⟨xc_LackError,⟨_,_,_,_,_,_,_,_,_,_,_,_,_,_,_,_,ob_LackError⟩,kp_LackError⟩,xi_LackError:=⟨xc_LackError,ha_LackError,oc_hn,oc_tk⟩,k_LackError:=⟨⟨_,q_LackError,r_LackError⟩,ty_LackError,rfl⟩,i_LackError:=i_LackError,r_LackError:=⟨rs_LackError,rr_LackError,rf_LackError,rfl⟩,m_NoWord:=PySem.W.mg_of X G a_NoWord,x_NoWord:=⟨xc_NoWord,⟨_,_,_,_,_,_,_,_,_,_,_,_,_,_,_,_,ob_NoWord⟩,kp_NoWord⟩,xi_NoWord:=⟨xc_NoWord,ha_NoWord,oc_hn,oc_tk⟩,k_NoWord:=⟨⟨_,q_NoWord,r_NoWord⟩,ty_NoWord,rfl⟩,i_NoWord:=i_NoWord,fn_NoWord:=fn_NoWord,n_NoWord_word:=n_NoWord_word,fi_NoWord:=F_INoWord,b_NoWord:=F_INoWord.binds (ps:=["self","word"]) fun _ _ _ _ _ _ us hl=>match us,hl with | [_,_],_=>rfl,m_NoRing:=PySem.W.mg_of X G a_NoRing,x_NoRing:=⟨xc_NoRing,⟨_,_,_,_,_,_,_,_,_,_,_,_,_,_,_,_,ob_NoRing⟩,kp_NoRing⟩,xi_NoRing:=⟨xc_NoRing,ha_NoRing,oc_hn,oc_tk⟩,k_NoRing:=⟨⟨_,q_NoRing,r_NoRing⟩,ty_NoRing,rfl⟩,i_NoRing:=i_NoRing,fn_NoRing:=fn_NoRing,n_NoRing_thing:=n_NoRing_thing,fi_NoRing:=F_INoRing,b_NoRing:=F_INoRing.binds (ps:=["self","thing"]) fun _ _ _ _ _ _ us hl=>match us,hl with | [_,_],_=>rfl,m_NoKinds:=PySem.W.mg_of X G a_NoKinds,x_NoKinds:=⟨xc_NoKinds,⟨_,_,_,_,_,_,_,_,_,_,_,_,_,_,_,_,ob_NoKinds⟩,kp_NoKinds⟩,xi_NoKinds:=⟨xc_NoKinds,ha_NoKinds,oc_hn,oc_tk⟩,k_NoKinds:=⟨⟨_,q_NoKinds,r_NoKinds⟩,ty_NoKinds,rfl⟩,i_NoKinds:=i_NoKinds,m_Band:=PySem.W.mg_of X G a_Band,cr_Band:=⟨rs_Band,rr_Band,rf_Band,rfl⟩,cl_Band:=⟨pg_Band,hd_Band,po_Band,sa_Band⟩,m_Ring:=PySem.W.mg_of X G a_Ring,cr_Ring:=⟨rs_Ring,rr_Ring,rf_Ring,rfl⟩,cl_Ring:=⟨pg_Ring,hd_Ring,po_Ring,sa_Ring⟩,mk_Ring:=⟨mk_Ring,in_Ring,fn_MRing_init,kc_Ring⟩,me_Ring_text:=⟨me_Ring_text,fn_MBand_text,kk_MBand_text⟩,me_Ring_words:=⟨me_Ring_words,fn_MBand_words,kk_MBand_words⟩,me_Ring_laid_out:=⟨me_Ring_laid_out,fn_MRing_laid_out,kk_MRing_laid_out⟩,me_Ring_stands:=⟨me_Ring_stands,fn_MBand_stands,kk_MBand_stands⟩,me_Ring_place_of:=⟨me_Ring_place_of,fn_MBand_place_of,kk_MBand_place_of⟩,me_Ring_reach:=⟨me_Ring_reach,fn_MRing_reach,kk_MRing_reach⟩,me_Ring_root:=⟨me_Ring_root,fn_MRing_root,kk_MRing_root⟩,me_Ring_lacking:=⟨me_Ring_lacking,fn_MBand_lacking,kk_MBand_lacking⟩,me_Ring_turned:=⟨me_Ring_turned,fn_MRing_turned,kk_MRing_turned⟩,n_Ring_own_text:=n_Ring_own_text,n_Ring_own_kinds:=n_Ring_own_kinds,ty_Ring:=fun e=>.ins e ⟨pg_Ring,hd_Ring,po_Ring,sa_Ring⟩ ha_Ring ow_hn ow_tk mo_Ring,fm_Band_init:=F_MBand_init,kp_Band_init:=kk_MBand_init,b_Band_init:=F_MBand_init.binds (ps:=["self","text","kinds"]) fun _ _ _ _ _ _ us hl=>match us,hl with | [_,_,_],_=>rfl,fm_Band_text:=F_MBand_text,kp_Band_text:=kk_MBand_text,b_Band_text:=F_MBand_text.binds (ps:=["self"]) fun _ _ _ _ _ _ us hl=>match us,hl with | [_],_=>rfl,fm_Band_words:=F_MBand_words,kp_Band_words:=kk_MBand_words,b_Band_words:=F_MBand_words.binds (ps:=["self","length"]) fun _ _ _ _ _ _ us hl=>match us,hl with | [_,_],_=>rfl,fm_Band_stands:=F_MBand_stands,kp_Band_stands:=kk_MBand_stands,b_Band_stands:=F_MBand_stands.binds (ps:=["self","word"]) fun _ _ _ _ _ _ us hl=>match us,hl with | [_,_],_=>rfl,fm_Band_place_of:=F_MBand_place_of,kp_Band_place_of:=kk_MBand_place_of,b_Band_place_of:=F_MBand_place_of.binds (ps:=["self","word"]) fun _ _ _ _ _ _ us hl=>match us,hl with | [_,_],_=>rfl,fm_Band_lacking:=F_MBand_lacking,kp_Band_lacking:=kk_MBand_lacking,b_Band_lacking:=F_MBand_lacking.binds (ps:=["self"]) fun _ _ _ _ _ _ us hl=>match us,hl with | [_],_=>rfl,fm_Ring_init:=F_MRing_init,kp_Ring_init:=kk_MRing_init,b_Ring_init:=F_MRing_init.binds (ps:=["self","text","kinds"]) fun _ _ _ _ _ _ us hl=>match us,hl with | [_,_,_],_=>rfl,fm_Ring_laid_out:=F_MRing_laid_out,kp_Ring_laid_out:=kk_MRing_laid_out,b_Ring_laid_out:=F_MRing_laid_out.binds (ps:=["self","length"]) fun _ _ _ _ _ _ us hl=>match us,hl with | [_,_],_=>rfl,fm_Ring_root:=F_MRing_root,kp_Ring_root:=kk_MRing_root,b_Ring_root:=F_MRing_root.binds (ps:=["self"]) fun _ _ _ _ _ _ us hl=>match us,hl with | [_],_=>rfl,fm_Ring_reach:=F_MRing_reach,kp_Ring_reach:=kk_MRing_reach,b_Ring_reach:=F_MRing_reach.binds (ps:=["self"]) fun _ _ _ _ _ _ us hl=>match us,hl with | [_],_=>rfl,fm_Ring_turned:=F_MRing_turned,kp_Ring_turned:=kk_MRing_turned,b_Ring_turned:=F_MRing_turned.binds (ps:=["self","by"]) fun _ _ _ _ _ _ us hl=>match us,hl with | [_,_],_=>rfl,nd:=nd,z_len:=PySem.W.mg_none_of X G z_len,z_range:=PySem.W.mg_none_of X G z_range,z_isinstance:=PySem.W.mg_none_of X G z_isinstance,z_all:=PySem.W.mg_none_of X G z_all,z_list:=PySem.W.mg_none_of X G z_list,z_set:=PySem.W.mg_none_of X G z_set,z_sorted:=PySem.W.mg_none_of X G z_sorted,z_str:=PySem.W.mg_none_of X G z_str,z_int:=PySem.W.mg_none_of X G z_int,z_ValueError:=PySem.W.mg_none_of X G z_ValueError,c_SMALL_LETTERS:=⟨_,PySem.W.mg_of X G c_SMALL_LETTERS⟩,c_MOST_KINDS:=⟨_,PySem.W.mg_of X G c_MOST_KINDS⟩,c_MOST_ASKED:=⟨_,PySem.W.mg_of X G c_MOST_ASKED⟩,c_MOST_IN_RING:=⟨_,PySem.W.mg_of X G c_MOST_IN_RING⟩,bl:=fun s u=>.of_eq rfl },rfl,rfl⟩
end Pk73
set_option Elab.async false
set_option linter.all false
set_option maxRecDepth 100000
set_option maxHeartbeats 400000000
namespace Pk73
open PySem L2
def lpos:Pos:=⟨168,34,168,79⟩
def lq:Str:="_law_missing.<locals>.<lambda>"
def LET:List Nat:=[97,98,99,100,101,102,103,104,105,106,107,108,109,110,111,112,113,114,115,116,117,118,119,120,121,122]
def isk (l:List Nat):Bool:=decide (1≤l.length)&&decide (l.length≤4)&&(l.all fun c=>LET.contains c)&&decide (signs l=sortT (ddl (signs l)))
def isw (l m:List Nat) (most:Int):Bool:=decide ((l.length:Int)≤most)&&l.all fun c=>m.contains c
def tellG:List Nat→List Nat→Bool
  | _,[]=>true
  | last,c :: r=>decide (c∈LET)&&decide (last < [c])&&tellG [c] r
def tellsB (l:List Nat):Bool:=decide (1≤l.length)&&decide (l.length≤4)&&tellG [] l
theorem one_lt {a b:Nat}:([a] < [b])↔a < b:=by
  constructor
  · intro h;cases h with
    | rel h=>exact h
    | cons h=>cases h
  · exact fun h=>List.Lex.rel h
theorem tell_iff:∀ (l:List Nat) (d:Nat),tellG [d] l=true↔(∀ c∈l,c∈LET)∧(d :: l).Pairwise (· < ·)
  | [],d=>by simp [tellG]
  | c :: r,d=>by
    rw[tellG,Bool.and_eq_true,Bool.and_eq_true,decide_eq_true_iff,decide_eq_true_iff,one_lt,tell_iff r c]
    simp only[List.pairwise_cons,List.mem_cons,forall_eq_or_imp]
    constructor
    · rintro ⟨⟨h1,h2⟩,h3,h4,h5⟩
      exact ⟨⟨h1,h3⟩,⟨h2,fun x hx=>Nat.lt_trans h2 (h4 x hx)⟩,h4,h5⟩
    · rintro ⟨⟨h1,h3⟩,⟨h2,_⟩,h4,h5⟩
      exact ⟨⟨h1,h2⟩,h3,h4,h5⟩
theorem tell0_iff (l:List Nat):tellG [] l=true↔(∀ c∈l,c∈LET)∧l.Pairwise (· < ·):=by
  cases l with
  | nil=>simp [tellG]
  | cons c r=>
    rw[tellG,Bool.and_eq_true,Bool.and_eq_true,decide_eq_true_iff,decide_eq_true_iff,tell_iff r c]
    simp only[List.mem_cons,forall_eq_or_imp]
    constructor
    · rintro ⟨⟨h1,_⟩,h3,h4⟩;exact ⟨⟨h1,h3⟩,h4⟩
    · rintro ⟨⟨h1,h3⟩,h4⟩;exact ⟨⟨h1,by simp⟩,h3,h4⟩
theorem foldl_addT:∀ (ls acc:List (List Nat)),(acc++ls).Nodup→ls.foldl addT acc=acc++ls
  | [],acc,_=>by simp
  | x :: ls,acc,h=>by
    have hx:¬ x∈acc:=by
      rw[List.nodup_append] at h
      exact fun hm=>h.2.2 x hm x List.mem_cons_self rfl
    rw[List.foldl_cons,addT,if_neg hx,foldl_addT ls (acc++[x]) (by simpa using h)]
    simp
theorem signs_nodup {l:List Nat} (h:l.Pairwise (· < ·)):(signs l).Nodup:=by
  unfold signs List.Nodup
  rw[List.pairwise_map]
  exact h.imp fun hab e=>by injection e with e;omega
theorem ddl_nodup (ls:List (List Nat)):(ddl ls).Nodup:=by rw[←dd_list];exact dd_nodup _
theorem sorted_iff (l:List Nat):signs l=sortT (ddl (signs l))↔l.Pairwise (· < ·):=by
  constructor
  · intro e
    have h1:(signs l).Pairwise (fun a b=>leT a b=true):=by rw[e];exact sortT_sorted _
    have h2:(signs l).Nodup:=by rw[e];exact (sortT_perm _).nodup_iff.mpr (ddl_nodup _)
    unfold signs at h1
    unfold signs List.Nodup at h2
    rw[List.pairwise_map] at h1 h2
    refine (h1.and h2).imp ?_
    rintro a b ⟨x,y⟩
    have y':a≠b:=fun e=>y (by rw[e])
    have x':¬ ([b] < [a]):=by simpa [leT] using x
    rw[one_lt] at x'
    omega
  · intro h
    have e:ddl (signs l)=signs l:=by unfold ddl;rw[foldl_addT _ _ (by simpa using signs_nodup h)];simp
    rw[e]
    refine sortT_uniq (List.Perm.refl _) ?_
    unfold signs
    rw[List.pairwise_map]
    refine h.imp fun {a b} hab=>?_
    have:¬ ([b] < [a]):=by rw[one_lt];omega
    simpa [leT] using this
theorem isk_tells (l:List Nat):isk l=tellsB l:=by
  have h1:(l.all fun c=>LET.contains c)=decide (∀ c∈l,c∈LET):=by
    rw[Bool.eq_iff_iff,List.all_eq_true,decide_eq_true_iff]
    simp
  have h2:decide (signs l=sortT (ddl (signs l)))=decide (l.Pairwise (· < ·)):=by rw[Bool.eq_iff_iff,decide_eq_true_iff,decide_eq_true_iff,sorted_iff]
  have h3:tellG [] l=(decide (∀ c∈l,c∈LET)&&decide (l.Pairwise (· < ·))):=by rw[Bool.eq_iff_iff,Bool.and_eq_true,decide_eq_true_iff,decide_eq_true_iff,tell0_iff]
  unfold isk tellsB
  rw[h1,h2,h3,Bool.and_assoc]
theorem all_range (l m:List Nat):((List.range l.length).map (fun i=>decide (l.getD i 0∈m))).all id=l.all fun c=>m.contains c:=by
  rw[Bool.eq_iff_iff,List.all_eq_true,List.all_eq_true]
  constructor
  · intro h c hc
    obtain ⟨i,hi,rfl⟩:=List.mem_iff_getElem.mp hc
    have:=h _ (List.mem_map_of_mem (List.mem_range.mpr hi))
    simpa [List.getD_eq_getElem?_getD,List.getElem?_eq_getElem hi] using this
  · intro h b hb
    obtain ⟨i,hi,rfl⟩:=List.mem_map.mp hb
    have hi:=List.mem_range.mp hi
    have:=h _ (List.getElem_mem hi)
    simpa [List.getD_eq_getElem?_getD,List.getElem?_eq_getElem hi] using this
def cell (ns:List Int) (k:Int):Int:=ns.getD k.toNat 0
theorem atI_map {ns:List Int} {k:Int} (h0:0≤k) (h1:k < ns.length):atI (ns.map V.int) k=some (.int (cell ns k)):=by
  have hk:k.toNat < ns.length:=by omega
  unfold atI ixN cell
  rw[List.length_map,if_pos h0,if_pos h1,Option.bind_some,List.getElem?_map,List.getD_eq_getElem?_getD,List.getElem?_eq_getElem hk]
  rfl
theorem lenTx {K:PySem.W.Frag} {H:Hp} {l:List Nat} (h:l.length≤1000):LenV K (tx l) H l.length:=by
  have e:(⟨l.toArray⟩:Str).length=l.length:=by simp [Str.length]
  have:l.length≤sizeLine:=Nat.le_trans h (by rw[sizeLine_eq];decide)
  exact ⟨by rw[e];exact this,e.symm⟩
theorem cm {x y m:Int} (h:0 < m) (h2:m≤2 ^ 64):CMul (x % m) y:=.inl ⟨by have:=Int.emod_nonneg x (show m≠0 by omega);omega,by have:=Int.emod_lt_of_pos x h;omega⟩
theorem kit_ss {K:PySem.W.Frag} {t:Value}:PySem.W.kitOne K t t=some true:=by unfold PySem.W.kitOne;simp
theorem atI_ok {α:Type} {xs:List α} {i:Int} (h0:0≤i) (h1:i < xs.length):∃ v,atI xs i=some v∧v∈xs:=by
  have hi:i.toNat < xs.length:=by omega
  refine ⟨xs[i.toNat],?_,List.getElem_mem hi⟩
  unfold atI ixN
  rw[if_pos h0,if_pos h1,Option.bind_some,List.getElem?_eq_getElem hi]
theorem flat_tx (xs:List (List Nat)):(xs.map tx).all flatV=true:=by
  rw[List.all_eq_true]
  intro v hv
  obtain ⟨x,_,rfl⟩:=List.mem_map.mp hv
  rfl
theorem same_upd3 {H H2:Hp} {e:Addr} {o':HO} (s:Same H H2) (h:H e=none):Same H (upd H2 e o'):=fun b u hb=>by
  have:b≠e:=fun z=>by rw[z,h] at hb;cases hb
  rw[upd_ne this];exact s _ _ hb
theorem filt_range {α:Type} (p:α→Bool) (d:α) (ls:List α):((List.range ls.length).filter fun i=>p (ls.getD i d)).map (fun i=>ls.getD i d)=ls.filter p:=by
  have e:(List.range ls.length).map (fun i=>ls.getD i d)=ls:=by
    apply List.ext_getElem
    · simp
    · intro i h1 h2
      simp [h2]
  have h:=List.filter_map (p:=p) (f:=fun i=>ls.getD i d) (l:=List.range ls.length)
  rw[e] at h
  rw[h]
  rfl
theorem getD_tx {ls:List (List Nat)} {k:Nat} (h:k < ls.length):(ls.map tx).getD k V.non=tx (ls.getD k []):=by
  rw[List.getD_eq_getElem?_getD,List.getElem?_map,List.getD_eq_getElem?_getD,List.getElem?_eq_getElem h]
  rfl
theorem inV_tx {x:List Nat} {ls:List (List Nat)}:inV (tx x) (ls.map tx)=decide (x∈ls):=by
  unfold inV
  rw[Bool.eq_iff_iff,List.any_eq_true,decide_eq_true_iff]
  constructor
  · rintro ⟨y,hy,e⟩
    obtain ⟨l,hl,rfl⟩:=List.mem_map.mp hy
    rw[eqV_tx,decide_eq_true_iff,tx_inj] at e
    rw[←e];exact hl
  · intro h
    exact ⟨tx x,List.mem_map_of_mem h,by rw[eqV_tx];exact decide_eq_true rfl⟩
theorem deqs_tx:∀ (xs ys:List (List Nat)),deqs ((xs.map tx).map DT.f) ((ys.map tx).map DT.f)=decide (xs=ys)
  | [],[]=>by unfold deqs;rfl
  | [],y :: ys=>by simp only[List.map_cons,List.map_nil];unfold deqs;rfl
  | x :: xs,[]=>by simp only[List.map_cons,List.map_nil];unfold deqs;rfl
  | x :: xs,y :: ys=>by
    simp only[List.map_cons]
    unfold deqs
    rw[deqs_tx xs ys]
    have e:deq (DT.f (tx x)) (DT.f (tx y))=decide (x=y):=by
      unfold deq
      rw[←dec_tx]
      show ((⟨x.toArray⟩:Str) == ⟨y.toArray⟩)=_
      rw[Bool.eq_iff_iff,beq_iff_eq,decide_eq_true_iff]
      exact ⟨fun h=>by unfold tx;rw[h],fun h=>by unfold tx at h;injection h⟩
    rw[e,Bool.eq_iff_iff,Bool.and_eq_true,decide_eq_true_iff,decide_eq_true_iff,decide_eq_true_iff,List.cons.injEq]
theorem neL_tx {K:PySem.W.Frag} {H:Hp} {Q:VK} {a b:Addr} {xs:List (List Nat)} (h1:SqL K H a (xs.map tx)) (h2:SqL K H b (xs.map tx)) (q:Q (.bl false) H):rEqD K true (.ref a) (.ref b) H Q:=
  .inr ⟨_,_,datL h1 (flat_tx _),datL h2 (flat_tx _),fun z=>Bool.false_ne_true z.1,(ownL h1 (flat_tx _)).2.2,by
    unfold deq
    rw[deqs_tx,decide_eq_true rfl]
    exact q⟩
theorem cutV_ints {ns:List Int} {lo hi:Option Int} {v:V} (h:v∈cutV (ns.map V.int) lo hi):∃ c,v=.int c:=by
  have h2:v∈ns.map V.int:=List.mem_of_mem_drop (List.mem_of_mem_take h)
  obtain ⟨c,_,rfl⟩:=List.mem_map.mp h2
  exact ⟨c,rfl⟩
theorem cutV_len {xs:List V} {lo hi:Option Int}:(cutV xs lo hi).length≤xs.length:=by
  unfold cutV
  rw[List.length_take,List.length_drop]
  omega
theorem eqL_tx {K:PySem.W.Frag} {H:Hp} {Q:VK} {a b:Addr} {xs ys:List (List Nat)} (h1:SqL K H a (xs.map tx)) (h2:SqL K H b (ys.map tx)) (q:Q (.bl (decide (xs=ys))) H):rEqD K false (.ref a) (.ref b) H Q:=
  .inr ⟨_,_,datL h1 (flat_tx _),datL h2 (flat_tx _),fun z=>Bool.false_ne_true z.1,(ownL h1 (flat_tx _)).2.2,by
    unfold deq
    rw[deqs_tx]
    exact q⟩
theorem let_str:V.str (Str.ofString "abcdefghijklmnopqrstuvwxyz")=tx LET:=congrArg V.str (by decide +kernel)
theorem ddl_len (l:List Nat):(ddl (signs l)).length≤l.length:=by
  have:∀ (ls acc:List (List Nat)),(ls.foldl addT acc).length≤acc.length + ls.length:=by
    intro ls
    induction ls with
    | nil=>intro acc;simp
    | cons x ls ih=>
      intro acc
      rw[List.foldl_cons]
      refine Nat.le_trans (ih _) ?_
      unfold addT
      split <;> simp <;> omega
  have h:=this (signs l) []
  unfold ddl
  unfold signs at h ⊢
  simpa using h
theorem signs_length (l:List Nat):(signs l).length=l.length:=by unfold signs;rw[List.length_map]
def flds (l m:List Nat):List (Str×V):=putF "own_kinds" (tx m) (putF "own_text" (tx l) [])
theorem kt:¬ (("own_text":Str)="own_kinds"):=by decide +kernel
theorem flds_text {l m:List Nat}:(flds l m).lookup ("own_text":Str)=some (tx l):=by unfold flds;rw[lookup_putF,if_neg kt,lookup_putF,if_pos rfl]
theorem flds_kinds {l m:List Nat}:(flds l m).lookup ("own_kinds":Str)=some (tx m):=by unfold flds;rw[lookup_putF,if_pos rfl]
theorem flds_no {l m:List Nat} {x:Str} (h1:¬ x="own_text") (h2:¬ x="own_kinds"):(flds l m).lookup x=none:=by
  unfold flds
  rw[lookup_putF,if_neg h2,lookup_putF,if_neg h1]
  rfl
def RingAt (C:Addr) (H:Hp) (p:Addr) (l m:List Nat):Prop:=∃ dx,H p=some (.ins C dx (flds l m))
theorem RingAt.same {C:Addr} {H H':Hp} {p:Addr} {l m:List Nat} (r:RingAt C H p l m) (s:Same H H'):RingAt C H' p l m:=let ⟨dx,h⟩:=r;⟨dx,s _ _ h⟩
structure RingOk (l m:List Nat):Prop where
  k:isk m=true
  m1:1≤m.length
  m4:m.length≤4
  l1:1≤l.length
  l20:l.length≤20
  mem:∀ x∈l,x∈m
theorem RingOk.root {l m:List Nat} (h:RingOk l m):RingOk (rootOf l) m:=⟨h.k,h.m1,h.m4,by rw[root_len h.l1];exact (rootLen_spec h.l1).1,by rw[root_len h.l1];exact Nat.le_trans (rootLen_spec h.l1).2.1 h.l20,fun x hx=>h.mem x (root_mem hx)⟩
theorem RingOk.turn {l m:List Nat} {b:Int} (h:RingOk l m):RingOk (turnL l b) m:=⟨h.k,h.m1,h.m4,by rw[turn_len h.l1];exact h.l1,by rw[turn_len h.l1];exact h.l20,fun x hx=>h.mem x (turn_mem h.l1 hx)⟩
theorem ddlLe (ls:List (List Nat)):(ddl ls).length≤ls.length:=by
  have:∀ (ls acc:List (List Nat)),(ls.foldl addT acc).length≤acc.length + ls.length:=by
    intro ls
    induction ls with
    | nil=>intro acc;simp
    | cons x ls ih=>
      intro acc
      rw[List.foldl_cons]
      refine Nat.le_trans (ih _) ?_
      unfold addT
      split <;> simp <;> omega
  simpa [ddl] using this ls []
theorem isw_ok {l m:List Nat} (h:RingOk l m):isw l m 20=true:=by
  have h2:=h.l20
  unfold isw
  rw[Bool.and_eq_true,decide_eq_true_iff,List.all_eq_true]
  exact ⟨by omega,fun x hx=>by simpa using h.mem x hx⟩
theorem tx_ne_nil {l:List Nat} (h:1≤l.length):decide (tx l=tx [])=false:=by
  rw[dec_tx,decide_eq_false_iff_not]
  intro e
  rw[e] at h
  simp at h
theorem let_at:∀ k,k < 26→LET[k]?=some (97 + k):=by decide
theorem let_mem {c:Nat} (h1:97≤c) (h2:c≤122):c∈LET:=by
  have:=let_at (c - 97) (by omega)
  have e:97 + (c - 97)=c:=by omega
  rw[e] at this
  exact List.mem_of_getElem? this
theorem isk_of {m:List Nat} (h1:1≤m.length) (h4:m.length≤4) (hm:∀ c∈m,c∈LET) (hp:m.Pairwise (· < ·)):isk m=true:=by
  rw[isk_tells]
  unfold tellsB
  rw[(tell0_iff m).mpr ⟨hm,hp⟩]
  simp [h1,h4]
theorem cutTo (l:List Nat) {i:Int} (h:0≤i):cut l none (some i)=l.take i.toNat:=by
  obtain ⟨k,rfl⟩:∃ k:Nat,i=(k:Int):=⟨i.toNat,by omega⟩
  rw[cut_to,Int.toNat_natCast]
theorem cutFrom (l:List Nat) {i:Int} (h:0≤i):cut l (some i) none=l.drop i.toNat:=by
  obtain ⟨k,rfl⟩:∃ k:Nat,i=(k:Int):=⟨i.toNat,by omega⟩
  rw[cut_from,Int.toNat_natCast]
theorem iteT' {p q:Prop} [Decidable True] (h:p):if True then p else q:=by rw[if_pos True.intro];exact h
theorem while0 {c:TT} {tb:TS} {D:Ends} {σ:St} {H:Hp} (Pv:St→Prop) (μ:St→Nat) (h0:Pv σ)
    (hs:∀ σ,Pv σ→∃ b:Bool,(∀ Q:Bool→Hp→Prop,Q b H→c σ H Q)∧if b=true then tb { D with nx:=fun σ' H'=>(H'=H∧Pv σ')∧μ σ' < μ σ,ct:=fun σ' H'=>(H'=H∧Pv σ')∧μ σ' < μ σ,bk:=D.nx } σ H else D.nx σ H):WhileRun c tb D σ H:=by
  refine ⟨fun m σ H'=>m=μ σ∧H'=H∧Pv σ,⟨_,rfl,rfl,h0⟩,?_⟩
  rintro m σ _ ⟨rfl,rfl,p⟩
  obtain ⟨b,hc,hb⟩:=hs σ p
  refine hc _ ?_
  cases b with
  | true=>exact ⟨_,fun σ' H' ⟨p',l⟩=>⟨_,l,rfl,p'⟩,hb⟩
  | false=>exact hb
theorem repT_len (l:List Nat) (n:Int):(repT l n).length=n.toNat * l.length:=by unfold repT;simp
theorem repT_mem {l:List Nat} {n:Int} {x:Nat} (h:x∈repT l n):x∈l:=by
  unfold repT at h
  obtain ⟨y,hy,hx⟩:=List.mem_flatten.mp h
  rw[(List.mem_replicate.mp hy).2] at hx
  exact hx
theorem div_small {n s:Nat} (hs:1≤s):(n:Int) / (s:Nat)≤(n:Int):=by
  have e:(n:Int) / (s:Nat)=((n / s:Nat):Int):=(Int.natCast_ediv _ _).symm
  have:=Nat.div_le_self n s
  rw[e]
  omega
theorem div_pos {n s:Nat}:0≤(n:Int) / (s:Nat):=by
  have e:(n:Int) / (s:Nat)=((n / s:Nat):Int):=(Int.natCast_ediv _ _).symm
  rw[e]
  exact Int.natCast_nonneg _
theorem fill {f m:List Nat} {n:Nat} {e:Int} (hn:0 < n) (hf:f.length=n) (hm:∀ x∈f,x∈m) (he:1≤e):(cut (repT (cut f none (some e)) (n:Nat)) none (some ((n:Nat):Int))).length=n∧∀ x∈cut (repT (cut f none (some e)) (n:Nat)) none (some ((n:Nat):Int)),x∈m:=by
  rw[cut_to,cutTo f (by omega)]
  have ht:1≤(f.take e.toNat).length:=by rw[List.length_take];omega
  have hl:n≤(repT (f.take e.toNat) (n:Nat)).length:=by
    rw[repT_len,Int.toNat_natCast]
    exact Nat.le_mul_of_pos_right n ht
  refine ⟨by rw[List.length_take];omega,fun x hx=>?_⟩
  exact hm x (List.mem_of_mem_take (repT_mem (List.mem_of_mem_take hx)))
theorem put1 {f m:List Nat} {n c:Nat} {i:Int} (hf:f.length=n) (hm:∀ x∈f,x∈m) (hc:c∈m) (h0:0≤i) (h1:i < (n:Nat)):(cut f none (some i)++[c]++cut f (some (i + 1)) none).length=n∧∀ x∈cut f none (some i)++[c]++cut f (some (i + 1)) none,x∈m:=by
  rw[cutTo f h0,cutFrom f (by omega)]
  refine ⟨by rw[List.length_append,List.length_append,List.length_take,List.length_drop,List.length_singleton];omega,fun x hx=>?_⟩
  rcases List.mem_append.mp hx with hx | hx
  · rcases List.mem_append.mp hx with hx | hx
    · exact hm x (List.mem_of_mem_take hx)
    · rw[List.mem_singleton.mp hx];exact hc
  · exact hm x (List.mem_of_mem_drop hx)
theorem eq_tx {K:PySem.W.Frag} {H:Hp} {Q:VK} {x:List Nat} (h:Q (.bl true) H):rEqD K false (tx x) (tx x) H Q:=.inl ⟨rfl,by rw[if_neg Bool.false_ne_true,decide_eq_true rfl];exact h⟩
theorem ne_int {K:PySem.W.Frag} {H:Hp} {Q:VK} {x:Int} (h:Q (.bl false) H):rEqD K true (.int x) (.int x) H Q:=.inl ⟨rfl,by rw[if_pos rfl,decide_eq_true rfl];exact h⟩
theorem eq_int {K:PySem.W.Frag} {H:Hp} {Q:VK} {x:Int} (h:Q (.bl true) H):rEqD K false (.int x) (.int x) H Q:=.inl ⟨rfl,by rw[if_neg Bool.false_ne_true,decide_eq_true rfl];exact h⟩
def fs1 (f:Str):List V→List (Str×V):=fun r=>putF f (r.getD 0 .non) []
def SelfEq (K:PySem.W.Frag) (H:Hp) (v:V):Prop:=(∃ d,Own K H d v)∨∃ (a:Addr) (kvs:List (Key×V)),v=.ref a∧H a=some (.dK kvs)
def Oth (K:PySem.W.Frag) (H:Hp) (v:V):Prop:=∃ T b,TyX K H v (.type T)∧PySem.W.kitOne K (.type T) (.type "str")=some false∧PySem.W.kitOne K (.type T) (.type "bool")=some b∧SelfEq K H v
def BadK (K:PySem.W.Frag) (H:Hp) (v:V):Prop:=(∃ l:List Nat,v=tx l∧l.length≤1000∧isk l=false)∨Oth K H v
def BadW (K:PySem.W.Frag) (H:Hp) (v:V) (m:List Nat) (most:Int):Prop:=(∃ l:List Nat,v=tx l∧l.length≤1000∧isw l m most=false)∨Oth K H v
def XNk (a:Ad) (E:XK) (H:Hp):Prop:=∀ e H2,Same H H2→XAny H2 e a.c_NoKinds []→E (.ref a.c_NoKinds) (some e) H2
def XNw (a:Ad) (E:XK) (H:Hp) (v:V):Prop:=∀ e H2,Same H H2→XAny H2 e a.c_NoWord (fs1 "word" [v])→E (.ref a.c_NoWord) (some e) H2
theorem XNk.same {a:Ad} {E:XK} {H H':Hp} (x:XNk a E H) (s:Same H H'):XNk a E H':=fun e H2 s2 h=>x e H2 (s.trans s2) h
theorem XNw.same {a:Ad} {E:XK} {H H':Hp} {v:V} (x:XNw a E H v) (s:Same H H'):XNw a E H' v:=fun e H2 s2 h=>x e H2 (s.trans s2) h
structure KOk (m:List Nat):Prop where
  k:isk m=true
  m1:1≤m.length
  m4:m.length≤4
theorem RingOk.kok {l m:List Nat} (h:RingOk l m):KOk m:=⟨h.k,h.m1,h.m4⟩
theorem KOk.lets {m:List Nat} (h:KOk m):∀ c∈m,97≤c∧c≤122:=by
  have h1:=h.k
  rw[isk_tells] at h1
  unfold tellsB at h1
  rw[Bool.and_eq_true] at h1
  intro c hc
  have:=((tell0_iff m).mp h1.2).1 c hc
  revert this
  unfold LET
  simp only[List.mem_cons,List.not_mem_nil,or_false]
  omega
theorem isw_yes {l m:List Nat} {most:Int} (h:(l.length:Int)≤most) (hm:∀ x∈l,x∈m):isw l m most=true:=by
  unfold isw
  rw[Bool.and_eq_true,decide_eq_true_iff,List.all_eq_true]
  exact ⟨h,fun x hx=>by simpa using hm x hx⟩
theorem same_upd2 {H:Hp} {e:Addr} {o o':HO} (h:H e=none):Same H (upd (upd H e o) e o'):=fun b u hb=>by
  have:b≠e:=fun z=>by rw[z,h] at hb;cases hb
  rw[upd_ne this,upd_ne this];exact hb
theorem raise_any {H:Hp} {e C:Addr} {fs:List (Str×V)} (x:XAt H e C fs):∃ d,H e=some (xo e C d)∧XAny (upd H e (xr e C d)) e C fs:=by
  cases x with
  | bare h=>exact ⟨none,h,.bare upd_same⟩
  | @full d _ h1 h2 h3=>exact ⟨some d,h1,.full upd_same (by rw[upd_ne h3];exact h2) h3⟩
theorem TyX.same {K:PySem.W.Frag} {H H':Hp} {v:V} {t:Value} (h:TyX K H v t) (s:Same H H'):TyX K H' v t:=by
  cases h with
  | pl h=>
    refine .pl ?_
    cases h with
    | non=>exact .non
    | bl x=>exact .bl x
    | int i=>exact .int i
    | str x=>exact .str x
    | flt x=>exact .flt x
    | lst e=>exact .lst (s _ _ e)
    | frz e=>exact .frz (s _ _ e)
    | tup e=>exact .tup (s _ _ e)
    | dK e=>exact .dK (s _ _ e)
    | dT e=>exact .dT (s _ _ e)
    | ins e cl ha hn htk hm=>exact .ins (s _ _ e) cl ha hn htk hm
  | seqL h=>exact .seqL (s.seq h)
  | seqT h=>exact .seqT (s.seqT h)
  | exc x i=>exact .exc (x.same s) i
theorem Oth.same {K:PySem.W.Frag} {H H':Hp} {v:V} (o:Oth K H v) (s:Same H H'):Oth K H' v:=by
  obtain ⟨T,b,ty,kt,kb,se⟩:=o
  refine ⟨T,b,TyX.same ty s,kt,kb,?_⟩
  rcases se with ⟨d,o⟩ | ⟨b,kvs,rfl,hb⟩
  · exact .inl ⟨d,o.same s⟩
  · exact .inr ⟨b,kvs,rfl,s _ _ hb⟩
theorem BadK.same {K:PySem.W.Frag} {H H':Hp} {v:V} (o:BadK K H v) (s:Same H H'):BadK K H' v:=o.imp id fun o=>o.same s
theorem BadW.same {K:PySem.W.Frag} {H H':Hp} {v:V} {m:List Nat} {most:Int} (o:BadW K H v m most) (s:Same H H'):BadW K H' v m most:=o.imp id fun o=>o.same s
def XNr (a:Ad) (E:XK) (H:Hp) (v:V):Prop:=∀ e H2,Same H H2→XAny H2 e a.c_NoRing (fs1 "thing" [v])→E (.ref a.c_NoRing) (some e) H2
theorem XNr.same {a:Ad} {E:XK} {H H':Hp} {v:V} (x:XNr a E H v) (s:Same H H'):XNr a E H' v:=fun e H2 s2 h=>x e H2 (s.trans s2) h
def placesOf (l w:List Nat):List Nat:=(List.range (l.length + 1 - w.length)).filter fun i=>decide ((l.drop i).take w.length=w)
def ringPlace (l w:List Nat):Option Nat:=(List.range l.length).find? fun i=>decide ((List.range w.length).map (fun j=>cyc l (i + j))=w)
def plV:Option Nat→V
  | none=>.non
  | some i=>.int i
def BadR (K:PySem.W.Frag) (H:Hp) (v:V) (m:List Nat):Prop:=(∃ l:List Nat,v=tx l∧l.length≤1000∧(isw l m 20=false∨l=[]))∨Oth K H v
theorem BadR.same {K:PySem.W.Frag} {H H':Hp} {v:V} {m:List Nat} (o:BadR K H v m) (s:Same H H'):BadR K H' v m:=o.imp id fun o=>o.same s
theorem KOk.out {m:List Nat} (h:KOk m) {c:Nat} (hc:¬ (97≤c∧c≤122)):c∉m:=fun z=>hc (h.lets c z)
theorem atI0 {α:Type} {x:α} {xs:List α}:atI (x :: xs) 0=some x:=by
  unfold atI ixN
  rw[if_pos (Int.le_refl _),if_pos (by rw[List.length_cons];omega)]
  rfl
theorem places_laid {l w:List Nat} (h1:1≤l.length):placesOf (laidOut l w.length) w=(List.range l.length).filter fun i=>decide ((List.range w.length).map (fun j=>cyc l (i + j))=w):=by
  unfold placesOf
  have e:(laidOut l w.length).length + 1 - w.length=l.length:=by rw[laid_len h1];omega
  rw[e]
  apply List.filter_congr
  intro i hi
  have hi':=List.mem_range.mp hi
  rw[cut_cyc (g:=laidOut l w.length) (f:=cyc l) (fun k hk=>laid_at h1 hk) (by rw[laid_len h1];omega)]
theorem find_head {p:Nat→Bool}:∀ (L:List Nat),L.find? p=(L.filter p).head?
  | []=>rfl
  | x :: L=>by
    rw[List.find?_cons,List.filter_cons]
    cases p x with
    | true=>rfl
    | false=>exact find_head L
theorem place_head {l w:List Nat} (h1:1≤l.length):ringPlace l w=(placesOf (laidOut l w.length) w).head?:=by
  rw[places_laid h1]
  exact find_head _
theorem isw_le {w m:List Nat} (h:isw w m 60=true):w.length≤60:=by
  unfold isw at h
  rw[Bool.and_eq_true,decide_eq_true_eq] at h
  omega
theorem plV_some {o:Option Nat}:(!decide (plV o=V.non))=o.isSome:=by
  cases o with
  | none=>rfl
  | some i=>
    have:¬ (plV (some i)=V.non):=by intro h;cases h
    rw[decide_eq_false this];rfl
theorem neB_same {K:PySem.W.Frag} {H:Hp} {Q:VK} {b:Bool} (q:Q (.bl false) H):rEqD K true (.bl b) (.bl b) H Q:=.inl ⟨rfl,by rw[if_pos rfl,decide_eq_true rfl];exact q⟩
structure StripOk (l m:List Nat):Prop where
  k:isk m=true
  m1:1≤m.length
  m4:m.length≤4
  l40:l.length≤40
  mem:∀ x∈l,x∈m
def Row (H:Hp) (l:List Nat) (w:List Nat) (y:V):Prop:=∃ (t:Addr) (j1 j2:Nat),y=.ref t∧H t=some (.tup [tx w,.int j1,.int j2])∧AtW l w.dropLast j1∧AtW l w.tail j2
def Rows (H:Hp) (l:List Nat) (ws:List (List Nat)) (ys:List V):Prop:=ys.length=ws.length∧∀ (i:Nat) (y:V),ys[i]?=some y→∃ w,ws[i]?=some w∧Row H l w y
theorem Rows.same {H H':Hp} {l:List Nat} {ws:List (List Nat)} {ys:List V} (r:Rows H l ws ys) (s:Same H H'):Rows H' l ws ys:=
  ⟨r.1,fun i y h=>let ⟨w,hw,t,j1,j2,e,h1,h2⟩:=r.2 i y h;⟨w,hw,t,j1,j2,e,s _ _ h1,h2⟩⟩
theorem cutLast (w:List Nat):cut w none (some (-1))=w.dropLast:=by
  unfold cut
  have e1:HT.sIx w.length w.length (some (-1))=w.length - 1:=by
    unfold HT.sIx
    simp only[]
    rw[if_pos (by decide)]
    omega
  have e2:HT.sIx w.length 0 none=0:=rfl
  rw[e1,e2,List.drop_zero,List.dropLast_eq_take]
  rfl
theorem cutTail (w:List Nat):cut w (some 1) none=w.tail:=by
  have:=cut_from w 1
  rw[List.drop_one] at this
  exact this
theorem take_next {α:Type} {l:List α} {i:Nat} {x:α} (h:l[i]?=some x):l.take (i + 1)=l.take i++[x]:=by rw[List.take_succ,h];rfl
theorem erase_perm:∀ (l:List Nat) (k:Nat) (h:k < l.length),(l[k] :: l.eraseIdx k).Perm l
  | x :: l,0,h=>by simp
  | x :: l,k + 1,h=>by
    simp only[List.getElem_cons_succ,List.eraseIdx_cons_succ]
    exact (List.Perm.swap _ _ _).trans ((erase_perm l k (by simpa using h)).cons x)
def RowF (H:Hp) (l w:List Nat) (y:V):Prop:=∃ t:Addr,y=.ref t∧H t=some (.tup [tx w,.int (fpl l w.dropLast:Nat),.int (fpl l w.tail:Nat)])
def RowsF (H:Hp) (l:List Nat) (ws:List (List Nat)) (ys:List V):Prop:=ys.length=ws.length∧∀ (i:Nat) (y:V),ys[i]?=some y→∃ w,ws[i]?=some w∧RowF H l w y
theorem RowsF.same {H H':Hp} {l:List Nat} {ws:List (List Nat)} {ys:List V} (r:RowsF H l ws ys) (s:Same H H'):RowsF H' l ws ys:=
  ⟨r.1,fun i y h=>let ⟨w,hw,t,e,h1⟩:=r.2 i y h;⟨w,hw,t,e,s _ _ h1⟩⟩
def SameV (H:Hp) (x y:V):Prop:=(x=y∧((∃ l,x=tx l)∨∃ i,x=.int i))∨∃ (px py:Addr) (vs:List V),x=.ref px∧y=.ref py∧H px=some (.tup vs)∧H py=some (.tup vs)∧vs.length≤1000∧∀ v∈vs,(∃ l,v=tx l)∨∃ i,v=.int i
theorem SameV.same {H H':Hp} {x y:V} (h:SameV H x y) (s:Same H H'):SameV H' x y:=by
  rcases h with h | ⟨px,py,vs,e1,e2,h1,h2,r⟩
  · exact .inl h
  · exact .inr ⟨px,py,vs,e1,e2,s _ _ h1,s _ _ h2,r⟩
theorem isk_rise {m:List Nat} (h:isk m=true):m.Pairwise (· < ·):=by
  rw[isk_tells] at h
  unfold tellsB at h
  rw[Bool.and_eq_true] at h
  exact ((tell0_iff m).mp h.2).2
theorem RowsF.upd {H:Hp} {l:List Nat} {W:List (List Nat)} {ys zs:List V} {a:Addr} {o:HO} (r:RowsF H l W ys) (h:H a=some (.lst zs)):RowsF (upd H a o) l W ys:=
  ⟨r.1,fun i y hy=>let ⟨w,hw,t,e,h1⟩:=r.2 i y hy;⟨w,hw,t,e,by rw[upd_ne (fun z=>by rw[z,h] at h1;cases h1)];exact h1⟩⟩
theorem ringWords_len (l:List Nat) (n:Nat):(ringWords l n).length≤l.length:=by
  unfold ringWords
  rw[(sortT_perm _).length_eq]
  refine Nat.le_trans (ddlLe _) ?_
  unfold ringList
  rw[List.length_map,List.length_range]
  exact Nat.le_refl _
theorem lackRT_len {l m:List Nat} {i:Nat} (hm:m.length≤4) (hl:l.length≤20):(lackRT l m i).length≤i * 80:=by
  have h1:∀ k,(lackA (ringWords l k) (ringWords l (k + 1)) m).length≤80:=fun k=>Nat.le_trans (lackA_len _ _ _) (Nat.le_trans (Nat.mul_le_mul (ringWords_len l k) hm) (by omega))
  have h2:=flatMap_len (f:=fun k=>lackA (ringWords l k) (ringWords l (k + 1)) m) h1 (List.range i)
  rw[List.length_range] at h2
  exact h2
def mP (l:List Nat) (k c:Nat) (w:List Nat):Bool:=decide (c :: w∉ringWords l (k + 1))&&(decide (k=0) || decide (c :: w.dropLast∈ringWords l k))
def missC (l:List Nat) (k c:Nat):List (List Nat):=((ringWords l k).filter (mP l k c)).map (c :: ·)
def missK (l m:List Nat) (k:Nat):List (List Nat):=m.flatMap (missC l k)
def missT (l m:List Nat) (n:Nat):List (List Nat):=(List.range n).flatMap (missK l m)
theorem missT_succ (l m:List Nat) (i:Nat):missT l m (i + 1)=missT l m i++missK l m i:=by
  unfold missT
  rw[List.range_succ,List.flatMap_append,List.flatMap_singleton]
theorem missC_len (l:List Nat) (k c:Nat) (hl:l.length≤20):(missC l k c).length≤20:=by
  unfold missC
  rw[List.length_map]
  exact Nat.le_trans (List.length_filter_le _ _) (Nat.le_trans (ringWords_len l k) hl)
theorem missK_len (l m:List Nat) (k:Nat) (hl:l.length≤20) (hm:m.length≤4):(missK l m k).length≤80:=by
  have:=flatMap_len (f:=missC l k) (fun c=>missC_len l k c hl) m
  unfold missK
  omega
theorem missT_len (l m:List Nat) (n:Nat) (hl:l.length≤20) (hm:m.length≤4):(missT l m n).length≤n * 80:=by
  have:=flatMap_len (f:=missK l m) (fun k=>missK_len l m k hl hm) (List.range n)
  rw[List.length_range] at this
  exact this
theorem mem_missT {l m x:List Nat} {n:Nat} (h1:1≤l.length):x∈missT l m n↔MissR l x∧(∃ c∈m,x.head?=some c)∧x.length≤n:=by
  unfold missT missK missC mP
  simp only[List.mem_flatMap,List.mem_range,List.mem_map,List.mem_filter,Bool.and_eq_true,Bool.or_eq_true,decide_eq_true_iff]
  constructor
  · rintro ⟨k,hk,c,hc,w,⟨hw,hn,hz⟩,rfl⟩
    have hw':=(mem_ringW h1).mp hw
    refine ⟨⟨by simp,?_,hw'.2,fun z=>hn ((mem_ringW h1).mpr ⟨by simp [hw'.1],z⟩)⟩,⟨c,hc,rfl⟩,by rw[List.length_cons,hw'.1];omega⟩
    cases w with
    | nil=>exact RI.nil l
    | cons d r=>
      rcases hz with hz | hz
      · rw[hz] at hw';simp at hw'
      · exact ((mem_ringW h1).mp hz).2
  · rintro ⟨ms,⟨c,hc,hh⟩,hl⟩
    match x,hh,ms,hl with
    | d :: w,hh,ms,hl=>
      obtain rfl:d=c:=by simpa using hh
      refine ⟨w.length,by rw[List.length_cons] at hl;omega,d,hc,w,⟨(mem_ringW h1).mpr ⟨rfl,ms.tail⟩,fun z=>ms.no ((mem_ringW h1).mp z).2,?_⟩,rfl⟩
      cases w with
      | nil=>exact .inl rfl
      | cons e r=>exact .inr ((mem_ringW h1).mpr ⟨by simp,ms.init⟩)
theorem missT_nodup {l m:List Nat} {n:Nat} (h1:1≤l.length) (hm:m.Pairwise (· < ·)):(missT l m n).Nodup:=by
  unfold missT List.Nodup
  have nm:m.Nodup:=hm.imp fun h e=>by omega
  rw[List.pairwise_flatMap]
  refine ⟨fun k _=>?_,?_⟩
  · unfold missK
    rw[List.pairwise_flatMap]
    refine ⟨fun c _=>?_,?_⟩
    · unfold missC
      rw[List.pairwise_map]
      refine List.Pairwise.filter _ ((rw_sorted l k).imp fun {a b} h e=>?_)
      injection e with _ e
      rw[e] at h
      exact List.lt_irrefl _ h
    · refine nm.imp fun {c d} hcd x hx y hy e=>?_
      unfold missC at hx hy
      obtain ⟨u,_,rfl⟩:=List.mem_map.mp hx
      obtain ⟨v,_,rfl⟩:=List.mem_map.mp hy
      injection e with e _
      exact hcd e
  · refine List.Pairwise.imp_of_mem ?_ List.pairwise_lt_range
    intro i j _ _ hij x hx y hy e
    have len:∀ k z,z∈missK l m k→z.length=k + 1:=fun k z hz=>by
      unfold missK missC at hz
      obtain ⟨c,_,hz⟩:=List.mem_flatMap.mp hz
      obtain ⟨w,hw,rfl⟩:=List.mem_map.mp hz
      rw[List.length_cons,((mem_ringW h1).mp (List.mem_filter.mp hw).1).1]
    have a:=len i x hx
    have b:=len j y hy
    rw[e] at a
    omega
theorem RI.mem {l w:List Nat} (h1:1≤l.length) (h:RI l w) {c:Nat} (hc:c∈w):c∈l:=by
  obtain ⟨i,h⟩:=h
  obtain ⟨j,hj,rfl⟩:=List.mem_iff_getElem.mp hc
  have:=h j hj
  rw[List.getElem?_eq_getElem hj] at this
  rw[Option.some.inj this]
  exact mem_cyc h1 _
theorem miss_ring {l m:List Nat} {ws:List (List Nat)} (h1:1≤l.length) (hm:m.Pairwise (· < ·)) (hlm:∀ x∈l,x∈m) {n:Nat} (hn:l.length≤n) (pm:ws.Perm (missT l m n)) (pw:ws.Pairwise (fun a b=>¬ BefW b a)):ws=lackRT l m (rootLen l):=by
  have nd:ws.Nodup:=pm.nodup_iff.mpr (missT_nodup h1 hm)
  refine sorted_one ((pw.and nd).imp ?_) (lackRT_sorted h1 hm) fun w=>?_
  · rintro a b ⟨p,q⟩
    rcases Nat.lt_trichotomy a.length b.length with z | z | z
    · exact .inl z
    · rcases lt_tri a b with k | k | k
      · exact .inr ⟨z,k⟩
      · exact absurd k q
      · exact absurd (.inr ⟨z.symm,k⟩) p
    · exact absurd (.inl z) p
  · rw[pm.mem_iff,mem_missT h1,mem_lackRT h1]
    have r2:=(rootLen_per h1).2.1
    constructor
    · rintro ⟨ms,⟨c,hc,hh⟩,hl⟩
      refine ⟨ms,⟨w.getLast ms.ne,?_,List.getLast?_eq_some_getLast _⟩,missR_len h1 ms⟩
      match w,hh,ms with
      | [d],hh,ms=>cases hh;exact hc
      | d :: e :: r,hh,ms=>
        have:(d :: e :: r).getLast ms.ne=(e :: r).getLast (by simp):=List.getLast_cons (by simp)
        rw[this]
        exact hlm _ (RI.mem h1 ms.tail (List.getLast_mem _))
    · rintro ⟨ms,⟨c,hc,hl⟩,hlen⟩
      refine ⟨ms,?_,by omega⟩
      match w,hl,ms with
      | [],hl,ms=>exact absurd rfl ms.ne
      | [d],hl,ms=>exact ⟨d,by cases hl;exact hc,rfl⟩
      | d :: e :: r,hl,ms=>exact ⟨d,hlm _ (RI.mem h1 ms.init (by simp)),rfl⟩
theorem at2m {x y:Int} {k:Bool} (hx:0≤x) (hx1:x≤59) (hy:0≤y) (hy1:y≤59):∃ n:Nat,n≤59∧atI [V.int x,V.int y] (if k=true then 1 else 0)=some (.int (n:Int)):=by
  cases k
  · exact ⟨x.toNat,by omega,by rw[show ((x.toNat:Nat):Int)=x by omega];rfl⟩
  · exact ⟨y.toNat,by omega,by rw[show ((y.toNat:Nat):Int)=y by omega];rfl⟩
theorem place_some {l w:List Nat} (h1:1≤l.length):(ringPlace l w).isSome=true↔RI l w:=by
  unfold ringPlace
  rw[List.find?_isSome]
  constructor
  · rintro ⟨i,hi,h⟩
    have h:=of_decide_eq_true h
    exact ((mem_ringW (l:=l) (x:=w) (n:=w.length) h1).mp (mem_rw0.mpr ⟨i,List.mem_range.mp hi,h.symm⟩)).2
  · intro h
    obtain ⟨i,hi,e⟩:=mem_rw0.mp ((mem_ringW (l:=l) (n:=w.length) h1).mpr ⟨rfl,h⟩)
    exact ⟨i,List.mem_range.mpr hi,decide_eq_true e.symm⟩
theorem neL_self {K:PySem.W.Frag} {H:Hp} {Q:VK} {a b:Addr} {xs:List V} (h1:SqL K H a xs) (h2:SqL K H b xs) (f:xs.all flatV=true) (q:Q (.bl false) H):rEqD K true (.ref a) (.ref b) H Q:=
  .inr ⟨_,_,datL h1 f,datL h2 f,fun z=>Bool.false_ne_true z.1,(ownL h1 f).2.2,by
    rw[show deq _ _=true from (ownL h1 f).2.1]
    exact q⟩
theorem eqL_self {K:PySem.W.Frag} {H:Hp} {Q:VK} {a b:Addr} {xs:List V} (h1:SqL K H a xs) (h2:SqL K H b xs) (f:xs.all flatV=true) (q:Q (.bl true) H):rEqD K false (.ref a) (.ref b) H Q:=
  .inr ⟨_,_,datL h1 f,datL h2 f,fun z=>Bool.false_ne_true z.1,(ownL h1 f).2.2,by
    rw[show deq _ _=true from (ownL h1 f).2.1]
    exact q⟩
theorem with_tail1 {G:Prop} {T C:Hp→Prop} (h1:(∀ H7,C H7→T H7)→G) (h2:∀ H7,C H7→T H7):G:=h1 h2
theorem lackRT_turn {l m:List Nat} {b:Int} (h1:1≤l.length):lackRT (turnL l b) m (rootLen (turnL l b))=lackRT l m (rootLen l):=by
  rw[rootLen_turn h1]
  unfold lackRT
  congr 1
  funext k
  rw[ringWords_turn h1,ringWords_turn h1]
def sp_has_only (K:PySem.W.Frag) (a:Ad):Sp:=fun vs H Q _=>∃ l m,vs=[tx l,tx m]∧l.length≤1000∧∀ H2,Same H H2→Q (.bl (l.all fun c=>m.contains c)) H2
def sp_is_kinds (K:PySem.W.Frag) (a:Ad):Sp:=fun vs H Q _=>∃ v,vs=[v]∧((∃ l,v=tx l∧l.length≤1000∧∀ H2,Same H H2→Q (.bl (isk l)) H2)∨(Oth K H v∧Q (.bl false) H))
def sp_is_word (K:PySem.W.Frag) (a:Ad):Sp:=fun vs H Q _=>∃ v m most,vs=[v,tx m,.int most]∧((∃ l,v=tx l∧l.length≤1000∧∀ H2,Same H H2→Q (.bl (isw l m most)) H2)∨(Oth K H v∧Q (.bl false) H))
def sp_need_kinds (K:PySem.W.Frag) (a:Ad):Sp:=fun vs H Q E=>∃ v,vs=[v]∧((∃ l,v=tx l∧l.length≤1000∧isk l=true∧∀ H2,Same H H2→Q .non H2)∨(BadK K H v∧XNk a E H))
def sp_need_word (K:PySem.W.Frag) (a:Ad):Sp:=fun vs H Q E=>∃ v m most,vs=[v,tx m,.int most]∧((∃ l,v=tx l∧l.length≤1000∧isw l m most=true∧∀ H2,Same H H2→Q .non H2)∨(BadW K H v m most∧XNw a E H v))
def sp_places (K:PySem.W.Frag) (a:Ad):Sp:=fun vs H Q _=>∃ (l w:List Nat),vs=[tx l,tx w]∧l.length≤900∧w.length≤l.length + 1∧∀ p H2,Same H H2→H2 p=some (.lst ((placesOf l w).map fun i=>.int (i:Nat)))→Q (.ref p) H2
def sp_pieces (K:PySem.W.Frag) (a:Ad):Sp:=fun vs H Q _=>∃ (l:List Nat) (n:Nat),vs=[tx l,.int n]∧l.length≤200∧n≤l.length + 1∧l.length < n + 63∧∀ p H2,Same H H2→H p=none→H2 p=some (.lst ((wordsOf l n).map tx))→Q (.ref p) H2
def sp_Band_init (K:PySem.W.Frag) (a:Ad):Sp:=fun vs H Q _=>∃ (p dx:Addr) (l m:List Nat),vs=[.ref p,tx l,tx m]∧H p=some (.ins a.c_Ring dx [])∧∀ H2,RingAt a.c_Ring H2 p l m→(∀ b o,H b=some o→b≠p→H2 b=some o)→Q .non H2
def sp_Ring_init (K:PySem.W.Frag) (a:Ad):Sp:=fun vs H Q E=>∃ (p dx:Addr) (v u:V),vs=[.ref p,v,u]∧H p=some (.ins a.c_Ring dx [])∧((∃ l m,v=tx l∧u=tx m∧RingOk l m∧∀ H2,RingAt a.c_Ring H2 p l m→(∀ b o,H b=some o→b≠p→H2 b=some o)→Q .non H2)∨(BadK K H u∧XNk a E H)∨(∃ m,u=tx m∧KOk m∧BadR K H v m∧XNr a E H v))
def sp_Band_text (K:PySem.W.Frag) (a:Ad):Sp:=fun vs H Q _=>∃ (p:Addr) (l m:List Nat),vs=[.ref p]∧RingAt a.c_Ring H p l m∧Q (tx l) H
def sp_Band_words (K:PySem.W.Frag) (a:Ad):Sp:=fun vs H Q _=>∃ (p:Addr) (l m:List Nat) (n:Nat),vs=[.ref p,.int n]∧RingAt a.c_Ring H p l m∧RingOk l m∧n≤60∧∀ q H2,Same H H2→H q=none→H2 q=some (.lst ((ringWords l n).map tx))→Q (.ref q) H2
def sp_Band_stands (K:PySem.W.Frag) (a:Ad):Sp:=fun vs H Q E=>∃ (p:Addr) (l m:List Nat) (v:V),vs=[.ref p,v]∧RingAt a.c_Ring H p l m∧RingOk l m∧((∃ w,v=tx w∧w.length≤1000∧isw w m 60=true∧∀ H2,Same H H2→Q (.bl (ringPlace l w).isSome) H2)∨(BadW K H v m 60∧XNw a E H v))
def sp_Band_place_of (K:PySem.W.Frag) (a:Ad):Sp:=fun vs H Q E=>∃ (p:Addr) (l m:List Nat) (v:V),vs=[.ref p,v]∧RingAt a.c_Ring H p l m∧RingOk l m∧((∃ w,v=tx w∧w.length≤1000∧isw w m 60=true∧∀ H2,Same H H2→Q (plV (ringPlace l w)) H2)∨(BadW K H v m 60∧XNw a E H v))
def sp_Ring_laid_out (K:PySem.W.Frag) (a:Ad):Sp:=fun vs H Q _=>∃ (p:Addr) (l m:List Nat) (n:Nat),vs=[.ref p,.int n]∧RingAt a.c_Ring H p l m∧RingOk l m∧n≤60∧Q (tx (laidOut l n)) H
def sp_lcell (K:PySem.W.Frag) (a:Ad):Sp:=fun vs H Q _=>∃ (b:Addr) (ns:List Int) (k:Int),vs=[.ref b,.int k]∧SqL K H b (ns.map V.int)∧0≤k∧k≤1000∧∀ r:Int,Q (.int r) H
def sp_mixed (K:PySem.W.Frag) (a:Ad):Sp:=fun vs H Q _=>∃ c k,vs=[.int c,.int k]∧∀ r:Int,0≤r→Q (.int r) H
def sp_lkinds (K:PySem.W.Frag) (a:Ad):Sp:=fun vs H Q _=>∃ c,vs=[.int c]∧∀ m,isk m=true→1≤m.length→m.length≤4→Q (tx m) H
def sp_letters (K:PySem.W.Frag) (a:Ad):Sp:=fun vs H Q _=>∃ (w c:Int) (m:List Nat) (n:Nat),vs=[.int w,.int c,tx m,.int n]∧1≤m.length∧m.length≤4∧n≤60∧∀ (l:List Nat) H2,l.length=n→(∀ x∈l,x∈m)→Same H H2→Q (tx l) H2
def sp_lring (K:PySem.W.Frag) (a:Ad):Sp:=fun vs H Q _=>∃ (b:Addr) (ns:List Int) (k:Int) (m:List Nat),vs=[.ref b,.int k,tx m]∧SqL K H b (ns.map V.int)∧0≤k∧k≤900∧1≤m.length∧m.length≤4∧∀ (l:List Nat) H2,1≤l.length→l.length≤20→(∀ x∈l,x∈m)→Same H H2→Q (tx l) H2
def sp_lwords (K:PySem.W.Frag) (a:Ad):Sp:=fun vs H Q _=>∃ (l:List Nat) (n:Nat),vs=[tx l,.int n]∧1≤l.length∧l.length≤20∧n≤60∧∀ p H2,Same H H2→H p=none→H2 p=some (.lst ((ringWords l n).map tx))→Q (.ref p) H2
def sp_asked (K:PySem.W.Frag) (a:Ad):Sp:=fun vs H Q _=>∃ (c:Int) (l m:List Nat),vs=[.int c,tx l,tx m]∧RingOk l m∧∀ (w:List Nat) H2,w.length≤60→(∀ x∈w,x∈m)→Same H H2→Q (tx w) H2
def sp_Ring_root (K:PySem.W.Frag) (a:Ad):Sp:=fun vs H Q _=>∃ (p:Addr) (l m:List Nat),vs=[.ref p]∧RingAt a.c_Ring H p l m∧RingOk l m∧Q (tx (rootOf l)) H
def sp_Ring_reach (K:PySem.W.Frag) (a:Ad):Sp:=fun vs H Q _=>∃ (p:Addr) (l m:List Nat),vs=[.ref p]∧RingAt a.c_Ring H p l m∧RingOk l m∧Q (.int ((rootOf l).length:Nat)) H
def sp_Ring_turned (K:PySem.W.Frag) (a:Ad):Sp:=fun vs H Q _=>∃ (p:Addr) (l m:List Nat) (by_:Int),vs=[.ref p,.int by_]∧RingAt a.c_Ring H p l m∧RingOk l m∧∀ q H2,Same H H2→RingAt a.c_Ring H2 q (turnL l by_) m→Q (.ref q) H2
def sp_among (K:PySem.W.Frag) (a:Ad):Sp:=fun vs H Q _=>∃ (b1 b2:Addr) (sh st:List (List Nat)) (m:List Nat),vs=[.ref b1,.ref b2,tx m]∧H b1=some (.lst (sh.map tx))∧H b2=some (.lst (st.map tx))∧sh.length≤100∧m.length≤4∧(∀ w∈sh,w.length≤100)∧∀ p H2,Same H H2→H p=none→H2 p=some (.lst ((lackA sh st m).map tx))→Q (.ref p) H2
def sp_Band_lacking (K:PySem.W.Frag) (a:Ad):Sp:=fun vs H Q _=>∃ (p:Addr) (l m:List Nat),vs=[.ref p]∧RingAt a.c_Ring H p l m∧RingOk l m∧∀ q H2,Same H H2→H q=none→H2 q=some (.lst ((lackRT l m (rootLen l)).map tx))→Q (.ref q) H2
def sp_missing (K:PySem.W.Frag) (a:Ad):Sp:=fun vs H Q _=>∃ (l m:List Nat),vs=[tx l,tx m]∧RingOk l m∧TblOk H a.t_missing lpos lq∧∀ p H2,SameL H H2→TblOk H2 a.t_missing lpos lq→Nw H p→H2 p=some (.lst ((lackRT l m (rootLen l)).map tx))→Q (.ref p) H2
def spLaw (K:PySem.W.Frag) (tb:Str→Addr×Addr):Sp:=fun vs H Q _=>∃ (b:Addr) (ns:List Int),vs=[.ref b]∧SqL K H b (ns.map V.int)∧ns.length≤63∧TblOk H (tb "_law_missing").2 lpos lq∧∀ H2,Q (.bl true) H2
section
variable {P:Program} {w:World} {K:PySem.W.Frag} {mg:Str→Option Value} {base:Heap} {a:Ad} {tb:Str→Addr×Addr}
local macro_rules | `(tactic| walk_at "rd") => `(tactic| simp only [tSeq, tAsg, tPar, tOp, tUn, tVar, tC, gName, gNil, gCons, tRet, tRetN, tIfS, tTest, tB, tNot, tAnd, tOr, tAndV, tOrV, tNotV, tIf, tDrop, tNil, tCons, q_lst, q_tup, q_mk0, q_mkI, q_cat, tCall, tCB, tXFld, sXFld, tXInit, tBM, tBM0, tSl, tPart, tNoPart, tNext, L2.start, cxK, bxK, cxPr, cxWo, suxK, suxPr, suxWo, tRaise, tTry, tCallx, sSetx, sExprx, sIfx, hAs, hPlain, hNone, unE, tXFldR, tDisp, tPairs, q_for, q_comp, iRng1, iRng2, iList, iTup, iEnum, iText, gTup, pick, Option.bind_some, Option.bind_none, Option.join_some, Option.join_none, List.map_cons, List.map_nil, List.length_cons, List.length_nil, Nat.zero_add, Nat.reduceAdd, Nat.reduceSub, List.replicate_succ, List.replicate_zero, List.cons_append, List.nil_append, List.append_nil, List.getElem?_cons_zero, List.getElem?_cons_succ, List.set_cons_zero, List.set_cons_succ, q_I, q_I0, q_U, q_T, q_b, q_var, q_var', iZip, q_while, tMake, tMeth, tFld, sFld, sNo, tAug, tChain, sConsx, tMethx, tMakex, tDNewK, tSortK])
local macro_rules | `(tactic| walk_at "rd?") => `(tactic| (try walk_at "rd"))
theorem sc_has_only:FnScope ["text","letters"] ["text","letters"] (defScope s_has_only):=⟨rfl,rfl,rfl,by decide +kernel,rfl,by decide +kernel,by decide +kernel⟩
theorem ok_has_only (T:TL K mg base a tb):FnOk P w K mg base CX0 1 a.f_has_only a.d_has_only ["text","letters"] (sp_has_only K a):=by
  refine T.f_has_only.ok sc_has_only (fun vs H Q E h=>?_) (fun cdv A outer s H vs Q E hr h=>?_)
  · obtain ⟨_,_,rfl,_⟩:=h;rfl
  · have hu64:=hr.units
    have hu1:=Nat.lt_of_le_of_lt (Nat.add_le_add_left (show 1≤64 by decide) _) hu64
    obtain ⟨l,m,rfl,hl,q⟩:=h
    refine ⟨_,(pss_one (ps_ret (pe_callB (call_allL rfl) rfl T.z_all bt_all (pa_cons (pe_comp (N:=["sign","letters"]) (ix:=[none,some 1]) rfl (cmpOk_ok rfl) rfl (pi_text (pv 0)) (fun _ _ _ _=>(pg_name (i:=0) (show (["sign","letters"]:List Str).Nodup from by decide +kernel) rfl (Or.inl rfl) (Or.inr rfl))) (fun _ _ _ _=>pifs_nil) (fun _ _ _ _=>(pe_cmpR op_in_sign (pv 0) (pv 1) rfl))) pa_nil)))),?_⟩
    walk_at "rd"
    refine ⟨l,rfl,CompRun.text (fun _=>true) (fun i=>.bl (decide (l.getD i 0∈m))) hl ?_ ?_ ?_⟩
    · intro i H1 Q1 hi s1 q1;exact q1 H1 (Same.refl _)
    · intro i H1 Q1 hi _ s1 q1
      walk_at "rd"
      exact ⟨_,m,rfl,rfl,q1 H1 (Same.refl _)⟩
    · intro p H1 s1 n1 l1
      refine ⟨p,(List.range l.length).map (fun i=>decide (l.getD i 0∈m)),rfl,?_,?_⟩
      · rw[l1,filter_all,List.map_map];rfl
      · rw[all_range];exact q H1 s1
theorem sc_NoWord_init:FnScope ["self","word"] ["self","word"] (defScope s_NoWord_init):=⟨rfl,rfl,rfl,by decide +kernel,rfl,by decide +kernel,by decide +kernel⟩
theorem ok_NoWord_init (T:TL K mg base a tb):FnOk P w K mg base CX0 1 a.g_NoWord_init a.e_NoWord_init ["self","word"] (spInit K a.c_NoWord 1 (fs1 "word")):=by
  refine T.fi_NoWord.ok sc_NoWord_init (fun vs H Q E h=>?_) (fun cdv A outer s H vs Q E hr h=>?_)
  · obtain ⟨e,r,rfl,hl,_⟩:=h;simp [hl]
  · have hu64:=hr.units
    have hu1:=Nat.lt_of_le_of_lt (Nat.add_le_add_left (show 1≤64 by decide) _) hu64
    obtain ⟨e,r,rfl,hl,he,q⟩:=h
    obtain ⟨x,rfl⟩:∃ x,r=[x]:=by match r,hl with | [x],_=>exact ⟨x,rfl⟩
    refine ⟨_,(pss_cons (ps_expr (pe_xinit rfl T.m_LackError T.r_LackError (pa_cons (pv 0) (pa_cons (pe_strT (l:=[116,104,105,115,32,105,115,32,110,111,32,119,111,114,100,32,111,102,32,116,104,101,115,101,32,107,105,110,100,115,44,32,111,114,32,104,97,115,32,116,111,111,32,109,97,110,121,32,108,101,116,116,101,114,115]) (by decide +kernel)) pa_nil))))
      (pss_one (ps_xfld (pv 0) (pv 1) rfl))),?_⟩
    walk_at "rd"
    refine ⟨e,a.c_NoWord,none,_,rfl,he,T.x_NoWord,(by show 1≤1000;decide),e,a.c_NoWord,[],rfl,.bare he,T.x_NoWord.c,T.n_NoWord_word,(by show 0 < 1000;decide),fun H1 x1 k1 _=>?_⟩
    exact q H1 x1 fun b o hb hne=>k1 b o hb hne fun d hd=>by rw[he] at hd;exact absurd hd xo_ne
theorem sc_places:FnScope ["text","word","size"] ["text","word"] (defScope s_places):=⟨rfl,rfl,rfl,by decide +kernel,rfl,by decide +kernel,by decide +kernel⟩
theorem ok_places (T:TL K mg base a tb):FnOk P w K mg base CX0 1 a.f_places a.d_places ["text","word"] (sp_places K a):=by
  refine T.f_places.ok sc_places (fun vs H Q E h=>?_) (fun cdv A outer s H vs Q E hr h=>?_)
  · obtain ⟨_,_,rfl,_⟩:=h;rfl
  · have hu64:=hr.units
    have hu1:=Nat.lt_of_le_of_lt (Nat.add_le_add_left (show 1≤64 by decide) _) hu64
    obtain ⟨l,w_,rfl,hl,hw,q⟩:=h
    refine ⟨_,(pss_cons (ps_set (i:=2) sc_places.nd rfl (Or.inr rfl) (pe_callB (call_lenK (K:=K) rfl) rfl T.z_len bt_len (pa_cons (pv 1) pa_nil)))
      (pss_one (ps_ret (pe_comp (N:=["start","size","text","word"]) (ix:=[none,some 2,some 0,some 1]) rfl (cmpOk_ok rfl) rfl (pi_range1 rfl T.z_range (pa_cons (pe_op op_add (pe_op op_sub (pe_callB (call_lenK (K:=K) rfl) rfl T.z_len bt_len (pa_cons (pv 0) pa_nil)) (pv 2)) pe_int) pa_nil)) (fun _ _ _ _=>(pg_name (i:=0) (show (["start","size","text","word"]:List Str).Nodup from by decide +kernel) rfl (Or.inl rfl) (Or.inr rfl))) (fun _ _ _ _=>(pifs_one (pt_cmpR (op_eqDK (K:=K) rfl hu64) (pe_slice sl_tx (pv 2) (po_some (pv 0)) (po_some (pe_op op_add (pv 0) (pv 1)))) (pv 3) (nomark _)))) (fun _ _ _ _=>(pv 0)))))),?_⟩
    have sz:l.length≤sizeLine:=by rw[sizeLine_eq];omega
    walk_at "rd"
    refine ⟨_,_,rfl,lenTx (by omega),_,_,rfl,lenTx (by omega),_,rfl,by omega,by omega,?_⟩
    have e0:((l.length:Int) - (w_.length:Nat) + 1).toNat=l.length + 1 - w_.length:=by omega
    rw[e0]
    refine CompRun.range (fun i=>decide ((l.drop i).take w_.length=w_)) (fun i=>.int ((i:Nat):Int)) (by omega) ?_ ?_ ?_
    · intro i H1 Q1 hi s1 q1
      have e1:(0 + (i:Int))=((i:Nat):Int):=by omega
      have e2:((i:Nat):Int) + (w_.length:Nat)=((i + w_.length:Nat):Int):=by omega
      walk_at "rd"
      refine ⟨_,rfl,_,rfl,l,rfl,sz,.inl ⟨rfl,_,rfl,?_⟩⟩
      rw[if_neg Bool.false_ne_true,dec_tx,e1,e2,cut_nn]
      have e3:i + w_.length - i=w_.length:=by omega
      rw[e3]
      exact q1 H1 (Same.refl _)
    · intro i H1 Q1 hi _ s1 q1
      have e1:(0 + (i:Int))=((i:Nat):Int):=by omega
      walk_at "rd"
      rw[e1]
      exact q1 H1 (Same.refl _)
    · intro p H2 s2 n2 l2
      exact q p H2 s2 l2
theorem sc_pieces:FnScope ["text","length"] ["text","length"] (defScope s_pieces):=⟨rfl,rfl,rfl,by decide +kernel,rfl,by decide +kernel,by decide +kernel⟩
theorem ok_pieces (T:TL K mg base a tb):FnOk P w K mg base CX0 1 a.f_pieces a.d_pieces ["text","length"] (sp_pieces K a):=by
  refine T.f_pieces.ok sc_pieces (fun vs H Q E h=>?_) (fun cdv A outer s H vs Q E hr h=>?_)
  · obtain ⟨_,_,rfl,_⟩:=h;rfl
  · have hu64:=hr.units
    have hu1:=Nat.lt_of_le_of_lt (Nat.add_le_add_left (show 1≤64 by decide) _) hu64
    obtain ⟨l,n,rfl,hl,hn,h63,q⟩:=h
    refine ⟨_,(pss_one (ps_ret (pe_callB (call_sorted_set rfl) rfl T.z_sorted bt_sorted (pa_cons (pe_callTy (call_set_tx rfl) rfl T.z_set bt_set (pa_cons (pe_comp (N:=["start","length","text"]) (ix:=[none,some 1,some 0]) rfl (cmpOk_ok rfl) rfl (pi_range1 rfl T.z_range (pa_cons (pe_op op_add (pe_op op_sub (pe_callB (call_lenK (K:=K) rfl) rfl T.z_len bt_len (pa_cons (pv 0) pa_nil)) (pv 1)) pe_int) pa_nil)) (fun _ _ _ _=>(pg_name (i:=0) (show (["start","length","text"]:List Str).Nodup from by decide +kernel) rfl (Or.inl rfl) (Or.inr rfl))) (fun _ _ _ _=>pifs_nil) (fun _ _ _ _=>(pe_slice sl_tx (pv 2) (po_some (pv 0)) (po_some (pe_op op_add (pv 0) (pv 1)))))) pa_nil)) pa_nil)))),?_⟩
    walk_at "rd"
    have sz:l.length≤sizeLine:=Nat.le_trans hl (by rw[sizeLine_eq];decide)
    have ec:((l.length:Int) - (n:Nat) + 1).toNat=l.length + 1 - n:=by omega
    refine ⟨_,_,rfl,lenTx (by omega),_,rfl,by omega,by omega,?_⟩
    rw[ec]
    refine CompRun.rangeA (fun i=>tx ((l.drop i).take n)) (by omega) ?_ ?_
    · intro i H1 Q1 hi s1 q1
      walk_at "rd"
      refine ⟨_,rfl,_,rfl,l,rfl,sz,?_⟩
      have e1:(0 + (i:Int))=((i:Nat):Int):=by omega
      have e2:((i:Nat):Int) + (n:Nat)=((i + n:Nat):Int):=by omega
      rw[e1,e2,cut_nn]
      have e3:i + n - i=n:=by omega
      rw[e3]
      exact q1 H1 (Same.refl _)
    · intro p H1 s1 n1 l1
      refine ⟨(List.range (l.length + 1 - n)).map (fun i=>(l.drop i).take n),by simp;omega,.inr ⟨p,rfl,.mk (by rw[l1,List.map_map];rfl)⟩,fun p2 n2=>⟨p2,_,rfl,upd_same,?_,NewL.of fun p3 H3 s3 n3 l3=>q p3 H3 (s1.trans ((same_upd n2).trans s3)) ((s1.trans (same_upd n2)).free n3) l3⟩⟩
      refine Nat.lt_of_le_of_lt (ddlLe _) ?_
      rw[List.length_map,List.length_range]
      omega
theorem sc_among:FnScope ["shorter","standing","kinds","found","head","letter","word"] ["shorter","standing","kinds"] (defScope s_among):=⟨rfl,rfl,rfl,by decide +kernel,rfl,by decide +kernel,by decide +kernel⟩
theorem ok_among (T:TL K mg base a tb):FnOk P w K mg base CX0 1 a.f_among a.d_among ["shorter","standing","kinds"] (sp_among K a):=by
  refine T.f_among.ok sc_among (fun vs H Q E h=>?_) (fun cdv A outer s H vs Q E hr h=>?_)
  · obtain ⟨_,_,_,_,_,rfl,_⟩:=h;rfl
  · have hu64:=hr.units
    have hu1:=Nat.lt_of_le_of_lt (Nat.add_le_add_left (show 1≤64 by decide) _) hu64
    obtain ⟨b1,b2,sh,st,m,rfl,hb1,hb2,hsh,hm,hw,q⟩:=h
    refine ⟨_,(pss_cons (ps_set (i:=3) sc_among.nd rfl (Or.inl rfl) (pe_lst pa_nil))
      (pss_cons (ps_for PassesOwn.never rfl (pi_listK (K:=K) rfl (pv 0)) (pg_name (i:=4) sc_among.nd rfl (Or.inl rfl))
      (pss_one (ps_for PassesOwn.never rfl (pi_text (pv 2)) (pg_name (i:=5) sc_among.nd rfl (Or.inl rfl))
      (pss_cons (ps_set (i:=6) sc_among.nd rfl (Or.inl rfl) (pe_op op_add_tx (pv 4) (pv 5)))
      (pss_one (ps_if (PW.pt (pw_and (pt_cmpR (op_in_seqK (K:=K) rfl) (pe_slice sl_tx (pv 6) (po_some pe_int) po_none) (pv 0) rfl) (pw_and1 (pt_cmpR (op_notIn_seqK (K:=K) rfl) (pv 6) (pv 1) rfl)))) (pss_one (ps_expr (pe_bm PySem.F.plainAttrs_list PySem.F.slot_list_append PySem.F.type_list_append mt_append (pv 3) (pa_cons (pv 6) pa_nil)))) pss_nil))))))
      (pss_one (ps_ret (pv 3))))),?_⟩
    walk_at "rd"
    refine ⟨Nat.zero_le _,NewL.of fun pf H1 s1 nf lf=>⟨b1,rfl,⟨_,.mk (s1 _ _ hb1)⟩,ForRun.list (xs:=sh.map tx) (fun i σ H'=>∃ v4 v5 v6,σ=[some (.ref b1),some (.ref b2),some (tx m),some (.ref pf),v4,v5,v6]∧Same H H'∧H' pf=some (.lst (((sh.take i).flatMap (lackH sh st m)).map tx))) ⟨_,_,_,rfl,s1,lf⟩ (fun i σ H' _ ⟨_,_,_,_,s',_⟩=>.mk (s' _ _ hb1)) ?_ ?_⟩⟩
    · rintro i x σ H2 hx ⟨v4,v5,v6,rfl,s2,l2⟩
      obtain ⟨h,hh,rfl⟩:∃ h,sh[i]?=some h∧x=tx h:=by
        rw[List.getElem?_map] at hx
        cases e:sh[i]? with
        | none=>rw[e] at hx;cases hx
        | some h=>rw[e] at hx;exact ⟨h,rfl,(Option.some.inj hx).symm⟩
      have hw1:=hw h (List.mem_of_getElem? hh)
      have fl:=flatMap_len (f:=lackH sh st m) (b:=4) (fun x=>Nat.le_trans (lackH_len _ _ _ _) hm) (sh.take i)
      have tl:(sh.take i).length≤100:=by rw[List.length_take];omega
      walk_at "rd"
      refine ⟨m,rfl,ForRun.text (fun j σ H'=>∃ v5 v6,σ=[some (.ref b1),some (.ref b2),some (tx m),some (.ref pf),some (tx h),v5,v6]∧Same H H'∧H' pf=some (.lst (((sh.take i).flatMap (lackH sh st m)++((m.take j).filter (lackP sh st h)).map (fun c=>h++[c])).map tx))) ⟨_,_,rfl,s2,by simpa using l2⟩ ?_ ?_⟩
      · rintro j c σ H3 hc ⟨v5,v6,rfl,s3,l3⟩
        have fj:=List.length_filter_le (lackP sh st h) (m.take j)
        rw[List.length_take] at fj
        have fe:(m.take (j + 1)).filter (lackP sh st h)=(m.take j).filter (lackP sh st h)++if lackP sh st h c=true then [c] else []:=by
          rw[take_next hc,List.filter_append]
          congr 1
          by_cases z:lackP sh st h c=true
          · rw[if_pos z,List.filter_cons_of_pos z];rfl
          · rw[if_neg z,List.filter_cons_of_neg z];rfl
        rw[fe]
        walk_at "rd"
        refine ⟨by rw[sizeLine_eq];omega,_,rfl,_,rfl,by rw[List.length_append,List.length_singleton,sizeLine_eq];omega,?_⟩
        rw[cutTail]
        refine ⟨b1,_,rfl,.inl (.mk (s3 _ _ hb1)),rfl,flat_tx _,_,rfl,?_⟩
        rw[if_neg Bool.false_ne_true,inV_tx]
        by_cases t1:(h++[c]).tail∈sh
        · rw[decide_eq_true t1]
          refine iteT ⟨b2,_,rfl,.inl (.mk (s3 _ _ hb2)),rfl,flat_tx _,_,rfl,?_⟩
          rw[if_pos rfl,inV_tx]
          by_cases t2:h++[c]∈st
          · have e:¬ lackP sh st h c=true:=by unfold lackP;rw[decide_eq_true t2];simp
            rw[decide_eq_true t2,Bool.not_true,if_neg e,List.append_nil]
            exact iteF ⟨_,_,rfl,s3,l3⟩
          · have e:lackP sh st h c=true:=by unfold lackP;rw[decide_eq_true t1,decide_eq_false t2];rfl
            rw[decide_eq_false t2,Bool.not_false,if_pos e]
            refine iteT ⟨.inl ⟨rfl,_,.mk l3⟩,pf,_,_,rfl,rfl,l3,by rw[List.length_map,List.length_append,List.length_map,sizeLine_eq];omega,_,_,rfl,same_upd3 s3 nf,?_⟩
            rw[upd_same]
            simp
        · have e:¬ lackP sh st h c=true:=by unfold lackP;rw[decide_eq_false t1];simp
          rw[decide_eq_false t1,if_neg e,List.append_nil]
          exact iteF (iteF ⟨_,_,rfl,s3,l3⟩)
      · rintro σ H3 ⟨v5,v6,rfl,s3,l3⟩
        refine ⟨_,_,_,rfl,s3,?_⟩
        rw[l3,take_next hh,List.flatMap_append,List.flatMap_singleton,List.take_length]
        rfl
    · rintro σ H2 ⟨v4,v5,v6,rfl,s2,l2⟩
      walk_at "rd"
      rw[List.length_map,List.take_length] at l2
      exact q pf H2 s2 nf l2
theorem sc_lcell:FnScope ["_law_script","_law_k"] ["_law_script","_law_k"] (defScope s_lcell):=⟨rfl,rfl,rfl,by decide +kernel,rfl,by decide +kernel,by decide +kernel⟩
theorem ok_lcell (T:TL K mg base a tb):FnOk P w K mg base CX0 1 a.f_lcell a.d_lcell ["_law_script","_law_k"] (sp_lcell K a):=by
  refine T.f_lcell.ok sc_lcell (fun vs H Q E h=>?_) (fun cdv A outer s H vs Q E hr h=>?_)
  · obtain ⟨_,_,_,rfl,_⟩:=h;rfl
  · have hu64:=hr.units
    have hu1:=Nat.lt_of_le_of_lt (Nat.add_le_add_left (show 1≤64 by decide) _) hu64
    obtain ⟨b,ns,k,rfl,hS,hk,hk1,q⟩:=h
    refine ⟨_,(pss_cons (ps_if (pt_cmpR op_lt (pv 1) (pe_callB (call_lenK (K:=K) rfl) rfl T.z_len bt_len (pa_cons (pv 0) pa_nil)) (nomark _)) (pss_one (ps_ret (pe_ix (ix_listK (K:=K) rfl) (pv 0) (pv 1) (fun _ _=>rfl)))) pss_nil)
      (pss_one (ps_ret pe_int))),?_⟩
    walk_at "rd"
    refine ⟨_,_,rfl,.inl ⟨_,hS,rfl⟩,?_⟩
    rw[List.length_map]
    refine ite2 (fun h=>?_) (fun h=>?_)
    · have h':k < ns.length:=of_decide_eq_true h
      exact ⟨b,_,k,_,rfl,rfl,hS,atI_map hk h',q _⟩
    · exact q _
theorem sc_mixed:FnScope ["_law_cell_here","_law_k","_law_number"] ["_law_cell_here","_law_k"] (defScope s_mixed):=⟨rfl,rfl,rfl,by decide +kernel,rfl,by decide +kernel,by decide +kernel⟩
theorem ok_mixed (T:TL K mg base a tb):FnOk P w K mg base CX0 1 a.f_mixed a.d_mixed ["_law_cell_here","_law_k"] (sp_mixed K a):=by
  refine T.f_mixed.ok sc_mixed (fun vs H Q E h=>?_) (fun cdv A outer s H vs Q E hr h=>?_)
  · obtain ⟨_,_,rfl,_⟩:=h;rfl
  · have hu64:=hr.units
    have hu1:=Nat.lt_of_le_of_lt (Nat.add_le_add_left (show 1≤64 by decide) _) hu64
    obtain ⟨c,k,rfl,q⟩:=h
    refine ⟨_,(pss_cons (ps_set (i:=2) sc_mixed.nd rfl (Or.inl rfl) (pe_op op_mod (pe_op op_add (pe_op op_add (pe_op op_mul (pv 0) pe_int) (pe_op op_mul (pv 1) pe_int)) pe_int) pe_int))
      (pss_cons (ps_set (i:=2) sc_mixed.nd rfl (Or.inl rfl) (pe_op op_mod (pe_op op_add (pe_op op_add (pe_op op_mul (pe_op op_mod (pe_op op_mul (pv 2) (pv 2)) pe_int) pe_int) (pe_op op_mul (pv 1) pe_int)) pe_int) pe_int))
      (pss_one (ps_ret (pe_op op_mod (pe_op op_mul (pv 2) (pv 2)) pe_int))))),?_⟩
    walk_at "rd"
    exact ⟨.inr ⟨by decide,by decide⟩,.inr ⟨by decide,by decide⟩,by decide,cm (by decide) (by decide),by decide,.inr ⟨by decide,by decide⟩,.inr ⟨by decide,by decide⟩,by decide,cm (by decide) (by decide),by decide,q _ (Int.emod_nonneg _ (by decide))⟩
theorem sc_lkinds:FnScope ["_law_cell_here","_law_letters_here","_law_at","_law_left","_law_k"] ["_law_cell_here"] (defScope s_lkinds):=⟨rfl,rfl,rfl,by decide +kernel,rfl,by decide +kernel,by decide +kernel⟩
theorem ok_lkinds (T:TL K mg base a tb):FnOk P w K mg base CX0 1 a.f_lkinds a.d_lkinds ["_law_cell_here"] (sp_lkinds K a):=by
  refine T.f_lkinds.ok sc_lkinds (fun vs H Q E h=>?_) (fun cdv A outer s H vs Q E hr h=>?_)
  · obtain ⟨_,rfl,_⟩:=h;rfl
  · have hu64:=hr.units
    have hu1:=Nat.lt_of_le_of_lt (Nat.add_le_add_left (show 1≤64 by decide) _) hu64
    obtain ⟨c,rfl,q⟩:=h
    refine ⟨_,(pss_cons (ps_set (i:=1) sc_lkinds.nd rfl (Or.inl rfl) (pe_strT (l:=[]) (by decide +kernel)))
      (pss_cons (ps_set (i:=2) sc_lkinds.nd rfl (Or.inl rfl) (pe_op op_mod (pe_op op_fdiv (pv 0) pe_int) pe_int))
      (pss_cons (ps_set (i:=3) sc_lkinds.nd rfl (Or.inl rfl) (pe_op op_fdiv (pv 0) pe_int))
      (pss_cons (ps_for PassesOwn.never rfl (pi_range1 rfl T.z_range (pa_cons (pe_op op_add pe_int (pe_op op_mod (pv 0) pe_int)) pa_nil)) (pg_name (i:=4) sc_lkinds.nd rfl (Or.inl rfl))
      (pss_cons (ps_set (i:=1) sc_lkinds.nd rfl (Or.inl rfl) (pe_op op_add_tx (pv 1) (pe_ix ix_tx (pe_strT (l:=[97,98,99,100,101,102,103,104,105,106,107,108,109,110,111,112,113,114,115,116,117,118,119,120,121,122]) (by decide +kernel)) (pv 2) (fun _ _=>rfl))))
      (pss_cons (ps_set (i:=2) sc_lkinds.nd rfl (Or.inl rfl) (pe_op op_add (pe_op op_add (pv 2) pe_int) (pe_op op_mod (pv 3) pe_int)))
      (pss_one (ps_set (i:=3) sc_lkinds.nd rfl (Or.inl rfl) (pe_op op_fdiv (pv 3) pe_int))))))
      (pss_one (ps_ret (pv 1))))))),?_⟩
    walk_at "rd"
    have b1:=Int.emod_nonneg c (show (4:Int)≠0 by decide)
    have b2:=Int.emod_lt_of_pos c (show (0:Int) < 4 by decide)
    generalize c % 4=c4 at b1 b2
    refine ⟨⟨by decide,by decide⟩,by decide,⟨by decide,by decide⟩,by decide,_,rfl,by omega,by omega,ForRun.range (fun i σ H'=>H'=H∧∃ (l:List Nat) (at_ le:Int) (v4:Option V),σ=[some (.int c),some (tx l),some (.int at_),some (.int le),v4]∧l.length=i∧0≤at_∧at_≤7 + 5 * i∧(∀ x∈l,97≤x∧(x:Int) < 97 + at_)∧(∀ x∈l,x≤122)∧l.Pairwise (· < ·)) ⟨rfl,[],_,_,none,rfl,rfl,by omega,by omega,by simp,by simp,List.Pairwise.nil⟩ ?_ ?_⟩
    · rintro i σ H1 hi ⟨rfl,l,at_,le,v4,rfl,hl,h0,h7,hx,hy,hp⟩
      have hi4:i < 4:=by omega
      have hk:at_.toNat < 26:=by omega
      walk_at "rd"
      refine ⟨LET,_,97 + at_.toNat,rfl,rfl,by rw[sizeLine_eq];decide,?_,by rw[sizeLine_eq];omega,by decide,⟨by decide,by decide⟩,by trivial,l++[97 + at_.toNat],_,_,_,rfl,by simp [hl],by omega,by omega,?_,?_,?_⟩
      · unfold atI ixN
        rw[if_pos h0,if_pos (show at_ < ((LET.length:Nat):Int) by show at_ < 26;omega),Option.bind_some,let_at _ hk]
      · intro x hm
        rcases List.mem_append.mp hm with hm | hm
        · have:=hx x hm
          omega
        · rw[List.mem_singleton.mp hm]
          omega
      · intro x hm
        rcases List.mem_append.mp hm with hm | hm
        · exact hy x hm
        · rw[List.mem_singleton.mp hm]
          omega
      · rw[List.pairwise_append]
        refine ⟨hp,List.pairwise_singleton _ _,fun x hm y hy=>?_⟩
        rw[List.mem_singleton.mp hy]
        have:=hx x hm
        omega
    · rintro σ H1 ⟨rfl,l,at_,le,v4,rfl,hl,h0,h7,hx,hy,hp⟩
      walk_at "rd"
      exact q l (isk_of (by omega) (by omega) (fun x hm=>let_mem (hx x hm).1 (hy x hm)) hp) (by omega) (by omega)
theorem sc_lwords:FnScope ["_law_text","_law_length","_law_going"] ["_law_text","_law_length"] (defScope s_lwords):=⟨rfl,rfl,rfl,by decide +kernel,rfl,by decide +kernel,by decide +kernel⟩
theorem ok_lwords (T:TL K mg base a tb):FnOk P w K mg base CX0 1 a.f_lwords a.d_lwords ["_law_text","_law_length"] (sp_lwords K a):=by
  refine T.f_lwords.ok sc_lwords (fun vs H Q E h=>?_) (fun cdv A outer s H vs Q E hr h=>?_)
  · obtain ⟨_,_,rfl,_⟩:=h;rfl
  · have hu64:=hr.units
    have hu1:=Nat.lt_of_le_of_lt (Nat.add_le_add_left (show 1≤64 by decide) _) hu64
    obtain ⟨l,n,rfl,h1,h20,hn,q⟩:=h
    refine ⟨_,(pss_cons (ps_set (i:=2) sc_lwords.nd rfl (Or.inr rfl) (pe_op op_mul_tx (pv 0) (pe_op op_add (pe_op op_fdiv (pv 1) (pe_callB (call_lenK (K:=K) rfl) rfl T.z_len bt_len (pa_cons (pv 0) pa_nil))) pe_int)))
      (pss_one (ps_ret (pe_callB (call_sorted_set rfl) rfl T.z_sorted bt_sorted (pa_cons (pe_callTy (call_set_tx rfl) rfl T.z_set bt_set (pa_cons (pe_comp (N:=["_law_start","_law_going","_law_length"]) (ix:=[none,some 2,some 1]) rfl (cmpOk_ok rfl) rfl (pi_range1 rfl T.z_range (pa_cons (pe_callB (call_lenK (K:=K) rfl) rfl T.z_len bt_len (pa_cons (pv 0) pa_nil)) pa_nil)) (fun _ _ _ _=>(pg_name (i:=0) (show (["_law_start","_law_going","_law_length"]:List Str).Nodup from by decide +kernel) rfl (Or.inl rfl) (Or.inr rfl))) (fun _ _ _ _=>pifs_nil) (fun _ _ _ _=>(pe_slice sl_tx (pv 1) (po_some (pv 0)) (po_some (pe_op op_add (pv 0) (pv 2)))))) pa_nil)) pa_nil))))),?_⟩
    walk_at "rd"
    have ds:=div_small (n:=n) h1
    have dp:=div_pos (n:=n) (s:=l.length)
    have gl:=repT_len l ((n:Int) / (l.length:Nat) + 2)
    have gm:((n:Int) / (l.length:Nat) + 2).toNat * l.length≤62 * 20:=Nat.mul_le_mul (by omega) h20
    refine ⟨_,_,rfl,lenTx (by omega),⟨by omega,by omega⟩,l,_,rfl,rfl,by omega,by omega,by omega,_,_,rfl,lenTx (by omega),_,rfl,by omega,by omega,?_⟩
    rw[Int.toNat_natCast]
    refine CompRun.rangeA (fun i=>tx (((repT l ((n:Int) / (l.length:Nat) + 2)).drop i).take n)) (by omega) ?_ ?_
    · intro i H1 Q1 hi s1 q1
      walk_at "rd"
      refine ⟨_,rfl,_,rfl,_,rfl,by rw[sizeLine_eq];omega,?_⟩
      have e1:(0 + (i:Int))=((i:Nat):Int):=by omega
      have e2:((i:Nat):Int) + (n:Nat)=((i + n:Nat):Int):=by omega
      rw[e1,e2,cut_nn]
      have e3:i + n - i=n:=by omega
      rw[e3]
      exact q1 H1 (Same.refl _)
    · intro p H1 s1 n1 l1
      refine ⟨(List.range l.length).map (fun i=>((repT l ((n:Int) / (l.length:Nat) + 2)).drop i).take n),by simp;omega,.inr ⟨p,rfl,.mk (by rw[l1,List.map_map];rfl)⟩,fun p2 n2=>⟨p2,_,rfl,upd_same,?_,NewL.of fun p3 H3 s3 n3 l3=>q p3 H3 (s1.trans ((same_upd n2).trans s3)) ((s1.trans (same_upd n2)).free n3) (by rw[l3,words_going h1])⟩⟩
      refine Nat.lt_of_le_of_lt (ddlLe _) ?_
      rw[List.length_map,List.length_range]
      omega
theorem sc_Ring_root:FnScope ["self","size"] ["self"] (defScope s_Ring_root):=⟨rfl,rfl,rfl,by decide +kernel,rfl,by decide +kernel,by decide +kernel⟩
theorem ok_Ring_root (T:TL K mg base a tb):FnOk P w K mg base CX0 1 a.g_Ring_root a.e_Ring_root ["self"] (sp_Ring_root K a):=by
  refine T.fm_Ring_root.ok sc_Ring_root (fun vs H Q E h=>?_) (fun cdv A outer s H vs Q E hr h=>?_)
  · obtain ⟨_,_,_,rfl,_⟩:=h;rfl
  · have hu64:=hr.units
    have hu1:=Nat.lt_of_le_of_lt (Nat.add_le_add_left (show 1≤64 by decide) _) hu64
    obtain ⟨p,l,m,rfl,hp,ok,q⟩:=h
    refine ⟨_,(pss_cons (ps_set (i:=1) sc_Ring_root.nd rfl (Or.inl rfl) pe_int)
      (pss_cons (ps_while PassesOwn.never (pt_cmpR (op_neDK (K:=K) rfl hu64) (pe_op op_mul_tx (pe_slice sl_tx (pe_fldK (K:=K) rfl (pv 0) rfl) po_none (po_some (pv 1))) (pe_op op_fdiv (pe_callB (call_lenK (K:=K) rfl) rfl T.z_len bt_len (pa_cons (pe_fldK (K:=K) rfl (pv 0) rfl) pa_nil)) (pv 1))) (pe_fldK (K:=K) rfl (pv 0) rfl) (nomark _))
      (pss_one (ps_aug (i:=1) sc_Ring_root.nd rfl (Or.inl rfl) pe_int ip_add)))
      (pss_one (ps_ret (pe_slice sl_tx (pe_fldK (K:=K) rfl (pv 0) rfl) po_none (po_some (pv 1))))))),?_⟩
    obtain ⟨dx,hp⟩:=hp
    have l1:=ok.l1
    have l20:=ok.l20
    have sz:l.length≤sizeLine:=by rw[sizeLine_eq];omega
    obtain ⟨r1,r2,r3,r4⟩:=rootLen_spec l1
    walk_at "rd"
    refine while0 (fun σ=>∃ s:Nat,σ=[some (.ref p),some (.int (s:Nat))]∧1≤s∧s≤rootLen l) (fun σ=>match σ with | [_,some (.int s)]=>l.length - s.toNat | _=>0) ⟨1,rfl,Nat.le_refl _,r1⟩ ?_
    rintro σ ⟨s_,rfl,hs,hr'⟩
    refine ⟨!isRep l s_,fun Q1 h1=>?_,?_⟩
    · have ds:=div_small (n:=l.length) hs
      have dp:=div_pos (n:=l.length) (s:=s_)
      have c2:=cut_length l none (some (s_:Int))
      walk_at "rd"
      refine ⟨p,_,dx,_,_,rfl,hp,T.cl_Ring,T.n_Ring_own_text,flds_text,_,rfl,l,rfl,sz,p,_,dx,_,_,rfl,hp,T.cl_Ring,T.n_Ring_own_text,flds_text,_,_,rfl,lenTx (by omega),⟨by omega,by omega⟩,_,_,rfl,rfl,by omega,by omega,by omega,p,_,dx,_,_,rfl,hp,T.cl_Ring,T.n_Ring_own_text,flds_text,.inl ⟨rfl,_,rfl,?_⟩⟩
      rw[if_pos rfl,dec_tx,cut_to]
      exact h1
    · walk_at "rd"
      cases hb:isRep l s_ with
      | false=>
        have hlt:s_ < rootLen l:=by
          rcases Nat.lt_or_ge s_ (rootLen l) with h | h
          · exact h
          · have:s_=rootLen l:=by omega
            rw[this,r3] at hb
            cases hb
        rw[Bool.not_false]
        exact iteT ⟨_,_,rfl,rfl,⟨rfl,s_ + 1,rfl,by omega,by omega⟩,by show l.length - (((s_:Nat):Int) + 1).toNat < l.length - ((s_:Nat):Int).toNat;omega⟩
      | true=>
        have heq:s_=rootLen l:=by
          rcases Nat.lt_or_ge s_ (rootLen l) with h | h
          · rw[r4 s_ hs h] at hb
            cases hb
          · omega
        rw[Bool.not_true]
        refine iteF ⟨p,_,dx,_,_,rfl,hp,T.cl_Ring,T.n_Ring_own_text,flds_text,_,rfl,l,rfl,sz,?_⟩
        rw[cut_to,heq]
        exact q
theorem sc_Ring_laid_out:FnScope ["self","length","size"] ["self","length"] (defScope s_Ring_laid_out):=⟨rfl,rfl,rfl,by decide +kernel,rfl,by decide +kernel,by decide +kernel⟩
theorem ok_Ring_laid_out (T:TL K mg base a tb):FnOk P w K mg base CX0 1 a.g_Ring_laid_out a.e_Ring_laid_out ["self","length"] (sp_Ring_laid_out K a):=by
  refine T.fm_Ring_laid_out.ok sc_Ring_laid_out (fun vs H Q E h=>?_) (fun cdv A outer s H vs Q E hr h=>?_)
  · obtain ⟨_,_,_,_,rfl,_⟩:=h;rfl
  · have hu64:=hr.units
    have hu1:=Nat.lt_of_le_of_lt (Nat.add_le_add_left (show 1≤64 by decide) _) hu64
    obtain ⟨p,l,m,n,rfl,hp,ok,hn,q⟩:=h
    refine ⟨_,(pss_cons (ps_set (i:=2) sc_Ring_laid_out.nd rfl (Or.inl rfl) (pe_callB (call_lenK (K:=K) rfl) rfl T.z_len bt_len (pa_cons (pe_fldK (K:=K) rfl (pv 0) rfl) pa_nil)))
      (pss_one (ps_ret (pe_slice sl_tx (pe_op op_mul_tx (pe_fldK (K:=K) rfl (pv 0) rfl) (pe_op op_add (pe_op op_fdiv (pv 1) (pv 2)) pe_int)) po_none (po_some (pe_op op_sub (pe_op op_add (pv 2) (pv 1)) pe_int)))))),?_⟩
    obtain ⟨dx,hp⟩:=hp
    have l1:=ok.l1
    have l20:=ok.l20
    have ds:=div_small (n:=n) l1
    have dp:=div_pos (n:=n) (s:=l.length)
    have gl:=repT_len l ((n:Int) / (l.length:Nat) + 2)
    have gm:((n:Int) / (l.length:Nat) + 2).toNat * l.length≤62 * 20:=Nat.mul_le_mul (by omega) l20
    walk_at "rd"
    refine ⟨p,_,dx,_,_,rfl,hp,T.cl_Ring,T.n_Ring_own_text,flds_text,_,_,rfl,lenTx (by omega),p,_,dx,_,_,rfl,hp,T.cl_Ring,T.n_Ring_own_text,flds_text,⟨by omega,by omega⟩,l,_,rfl,rfl,by omega,by omega,by omega,_,rfl,_,rfl,by rw[sizeLine_eq];omega,?_⟩
    rw[cutTo _ (by omega)]
    have e:((l.length:Int) + (n:Nat) - 1).toNat=l.length + n - 1:=by omega
    rw[e]
    exact q
theorem sc_Band_text:FnScope ["self"] ["self"] (defScope s_Band_text):=⟨rfl,rfl,rfl,by decide +kernel,rfl,by decide +kernel,by decide +kernel⟩
theorem ok_Band_text (T:TL K mg base a tb):FnOk P w K mg base CX0 1 a.g_Band_text a.e_Band_text ["self"] (sp_Band_text K a):=by
  refine T.fm_Band_text.ok sc_Band_text (fun vs H Q E h=>?_) (fun cdv A outer s H vs Q E hr h=>?_)
  · obtain ⟨_,_,_,rfl,_⟩:=h;rfl
  · have hu64:=hr.units
    have hu1:=Nat.lt_of_le_of_lt (Nat.add_le_add_left (show 1≤64 by decide) _) hu64
    obtain ⟨p,l,m,rfl,hp,q⟩:=h
    refine ⟨_,(pss_one (ps_ret (pe_fldK (K:=K) rfl (pv 0) rfl))),?_⟩
    obtain ⟨dx,hp⟩:=hp
    walk_at "rd"
    exact ⟨p,_,dx,_,_,rfl,hp,T.cl_Ring,T.n_Ring_own_text,flds_text,q⟩
theorem sc_Band_init:FnScope ["self","text","kinds"] ["self","text","kinds"] (defScope s_Band_init):=⟨rfl,rfl,rfl,by decide +kernel,rfl,by decide +kernel,by decide +kernel⟩
theorem ok_Band_init (T:TL K mg base a tb):FnOk P w K mg base CX0 1 a.g_Band_init a.e_Band_init ["self","text","kinds"] (sp_Band_init K a):=by
  refine T.fm_Band_init.ok sc_Band_init (fun vs H Q E h=>?_) (fun cdv A outer s H vs Q E hr h=>?_)
  · obtain ⟨_,_,_,_,rfl,_⟩:=h;rfl
  · have hu64:=hr.units
    have hu1:=Nat.lt_of_le_of_lt (Nat.add_le_add_left (show 1≤64 by decide) _) hu64
    obtain ⟨p,dx,l,m,rfl,hp,q⟩:=h
    refine ⟨_,(pss_cons (ps_fld (pv 0) (pv 1) rfl)
      (pss_one (ps_fld (pv 0) (pv 2) rfl))),?_⟩
    walk_at "rd"
    exact ⟨p,a.c_Ring,dx,[],rfl,hp,T.cl_Ring,T.n_Ring_own_text,(by show 0 < 1000;decide),p,a.c_Ring,dx,_,rfl,upd_same,T.cl_Ring,T.n_Ring_own_kinds,(by show 1 < 1000;decide),q _ ⟨dx,upd_same⟩ (fun b o e ne=>by rw[upd_ne ne,upd_ne ne];exact e)⟩
theorem sc_NoRing_init:FnScope ["self","thing"] ["self","thing"] (defScope s_NoRing_init):=⟨rfl,rfl,rfl,by decide +kernel,rfl,by decide +kernel,by decide +kernel⟩
theorem ok_NoRing_init (T:TL K mg base a tb):FnOk P w K mg base CX0 1 a.g_NoRing_init a.e_NoRing_init ["self","thing"] (spInit K a.c_NoRing 1 (fs1 "thing")):=by
  refine T.fi_NoRing.ok sc_NoRing_init (fun vs H Q E h=>?_) (fun cdv A outer s H vs Q E hr h=>?_)
  · obtain ⟨e,r,rfl,hl,_⟩:=h;simp [hl]
  · have hu64:=hr.units
    have hu1:=Nat.lt_of_le_of_lt (Nat.add_le_add_left (show 1≤64 by decide) _) hu64
    obtain ⟨e,r,rfl,hl,he,q⟩:=h
    obtain ⟨x,rfl⟩:∃ x,r=[x]:=by match r,hl with | [x],_=>exact ⟨x,rfl⟩
    refine ⟨_,(pss_cons (ps_expr (pe_xinit rfl T.m_LackError T.r_LackError (pa_cons (pv 0) (pa_cons (pe_strT (l:=[116,104,105,115,32,105,115,32,110,111,32,116,101,120,116,32,111,102,32,97,32,114,105,110,103]) (by decide +kernel)) pa_nil))))
      (pss_one (ps_xfld (pv 0) (pv 1) rfl))),?_⟩
    walk_at "rd"
    refine ⟨e,a.c_NoRing,none,_,rfl,he,T.x_NoRing,(by show 1≤1000;decide),e,a.c_NoRing,[],rfl,.bare he,T.x_NoRing.c,T.n_NoRing_thing,(by show 0 < 1000;decide),fun H1 x1 k1 _=>?_⟩
    exact q H1 x1 fun b o hb hne=>k1 b o hb hne fun d hd=>by rw[he] at hd;exact absurd hd xo_ne
theorem sc_is_kinds:FnScope ["thing"] ["thing"] (defScope s_is_kinds):=⟨rfl,rfl,rfl,by decide +kernel,rfl,by decide +kernel,by decide +kernel⟩
theorem ok_is_kinds (T:TL K mg base a tb):FnOk P w K mg base CX0 2 a.f_is_kinds a.d_is_kinds ["thing"] (sp_is_kinds K a):=by
  refine T.f_is_kinds.ok sc_is_kinds (fun vs H Q E h=>?_) (fun cdv A outer s H vs Q E hr h=>?_)
  · obtain ⟨_,rfl,_⟩:=h;rfl
  · have hu64:=hr.units
    have hu1:=Nat.lt_of_le_of_lt (Nat.add_le_add_left (show 1≤64 by decide) _) hu64
    obtain ⟨v,rfl,q⟩:=h
    refine ⟨_,(pss_cons (ps_if (pt_not (pt_val (pe_callB (call_isinstR (K:=K) rfl) rfl T.z_isinstance bt_isinstance (pa_cons (pv 0) (pa_cons (pe_bltn (v:=.ty "str") rfl T.z_str bt_str rfl) pa_nil))))) (pss_one (ps_ret pe_bl)) pss_nil)
      (pss_cons (ps_if (PW.pt (pw_or (pt_cmpR op_lt (pe_callB (call_lenK (K:=K) rfl) rfl T.z_len bt_len (pa_cons (pv 0) pa_nil)) pe_int (nomark _)) (pw_or1 (pt_cmpR op_gt (pe_callB (call_lenK (K:=K) rfl) rfl T.z_len bt_len (pa_cons (pv 0) pa_nil)) (pe_globI rfl T.c_MOST_KINDS) (nomark _))))) (pss_one (ps_ret pe_bl)) pss_nil)
      (pss_one (ps_ret (pe_and (pe_call (ok_has_only T) (hr.mono (by decide)) rfl T.m_has_only T.f_has_only.kp T.b_has_only .nil pass0 (pa_cons (pv 0) (pa_cons (pe_globS rfl T.c_SMALL_LETTERS) pa_nil))) (pe_one (pe_cmpR (op_eqDK (K:=K) rfl hu64) (pe_callTy (call_list_tx rfl) rfl T.z_list bt_list (pa_cons (pv 0) pa_nil)) (pe_callB (call_sorted_set rfl) rfl T.z_sorted bt_sorted (pa_cons (pe_callTy (call_set_tx rfl) rfl T.z_set bt_set (pa_cons (pv 0) pa_nil)) pa_nil)) (nomark _)))))))),?_⟩
    walk_at "rd"
    rcases q with ⟨l,rfl,hl,q⟩ | ⟨⟨T0,_,ty,kt,_⟩,q⟩
    · refine ⟨_,_,_,_,true,rfl,rfl,.ty (.pl (.str _)),kit_ss,iteF ?_⟩
      refine ⟨_,_,rfl,lenTx hl,?_⟩
      refine ite2 (fun h=>iteT' ?_) (fun h=>?_)
      · have h1:¬ 1≤l.length:=by have:=of_decide_eq_true h;omega
        have e:=q H (Same.refl _)
        unfold isk at e
        rw[decide_eq_false h1,Bool.false_and,Bool.false_and,Bool.false_and] at e
        exact e
      · have h1:1≤l.length:=by have:¬ ((l.length:Nat):Int) < 1:=fun z=>h (decide_eq_true z);omega
        refine ⟨_,_,rfl,lenTx hl,?_⟩
        refine ite2 (fun h'=>?_) (fun h'=>?_)
        · have h4:¬ l.length≤4:=by have:=of_decide_eq_true h';omega
          have e:=q H (Same.refl _)
          unfold isk at e
          rw[decide_eq_false h4,Bool.and_false,Bool.false_and,Bool.false_and] at e
          exact e
        · have h4:l.length≤4:=by have:¬ 4 < ((l.length:Nat):Int):=fun z=>h' (decide_eq_true z);omega
          refine ⟨l,LET,by rw[let_str],hl,fun H2 s2=>⟨_,rfl,?_⟩⟩
          refine ite2 (fun ha=>?_) (fun ha=>?_)
          · refine ⟨l,rfl,hl,NewL.of fun p1 H3 s3 n3 l3=>?_⟩
            refine ⟨signs l,by rw[signs_length];exact hl,.inl ⟨l,rfl,rfl⟩,fun p4 n4=>?_⟩
            refine ⟨p4,ddl (signs l),rfl,upd_same,Nat.lt_of_le_of_lt (ddl_len l) (by omega),NewL.of fun p5 H5 s5 n5 l5=>?_⟩
            refine eqL_tx (.mk ((same_upd n4).trans s5 _ _ l3)) (.mk l5) ?_
            have e:=q H5 (s2.trans (s3.trans ((same_upd n4).trans s5)))
            unfold isk at e
            rw[decide_eq_true h1,decide_eq_true h4,ha,Bool.true_and,Bool.true_and,Bool.true_and] at e
            exact e
          · have e:=q H2 s2
            unfold isk at e
            rw[Bool.eq_false_iff.mpr ha,Bool.and_false,Bool.false_and] at e
            exact e
    · exact ⟨_,_,_,_,false,rfl,rfl,.ty ty,kt,iteT q⟩
theorem sc_is_word:FnScope ["thing","kinds","most"] ["thing","kinds","most"] (defScope s_is_word):=⟨rfl,rfl,rfl,by decide +kernel,rfl,by decide +kernel,by decide +kernel⟩
theorem ok_is_word (T:TL K mg base a tb):FnOk P w K mg base CX0 2 a.f_is_word a.d_is_word ["thing","kinds","most"] (sp_is_word K a):=by
  refine T.f_is_word.ok sc_is_word (fun vs H Q E h=>?_) (fun cdv A outer s H vs Q E hr h=>?_)
  · obtain ⟨_,_,_,rfl,_⟩:=h;rfl
  · have hu64:=hr.units
    have hu1:=Nat.lt_of_le_of_lt (Nat.add_le_add_left (show 1≤64 by decide) _) hu64
    obtain ⟨v,m,most,rfl,q⟩:=h
    refine ⟨_,(pss_one (ps_ret (pe_and (pe_callB (call_isinstR (K:=K) rfl) rfl T.z_isinstance bt_isinstance (pa_cons (pv 0) (pa_cons (pe_bltn (v:=.ty "str") rfl T.z_str bt_str rfl) pa_nil))) (pe_and (pe_cmpR op_le (pe_callB (call_lenK (K:=K) rfl) rfl T.z_len bt_len (pa_cons (pv 0) pa_nil)) (pv 2) (nomark _)) (pe_one (pe_call (ok_has_only T) (hr.mono (by decide)) rfl T.m_has_only T.f_has_only.kp T.b_has_only .nil pass0 (pa_cons (pv 0) (pa_cons (pv 1) pa_nil)))))))),?_⟩
    walk_at "rd"
    rcases q with ⟨l,rfl,hl,q⟩ | ⟨⟨T0,_,ty,kt,_⟩,q⟩
    · refine ⟨_,_,_,_,true,rfl,rfl,.ty (.pl (.str _)),kit_ss,iteT ?_⟩
      refine ⟨_,_,rfl,lenTx hl,?_⟩
      refine ite2 (fun h=>?_) (fun h=>?_)
      · refine ⟨l,m,rfl,hl,fun H2 s2=>?_⟩
        have e:=q H2 s2
        unfold isw at e
        rw[h,Bool.true_and] at e
        exact e
      · have e:=q H (Same.refl _)
        unfold isw at e
        rw[Bool.eq_false_iff.mpr h,Bool.false_and] at e
        exact e
    · exact ⟨_,_,_,_,false,rfl,rfl,.ty ty,kt,iteF q⟩
theorem sc_letters:FnScope ["_law_way","_law_cell_here","_law_kinds_here","_law_size","_law_found","_law_left","_law_k","_law_number","_law_at","_law_letter"] ["_law_way","_law_cell_here","_law_kinds_here","_law_size"] (defScope s_letters):=⟨rfl,rfl,rfl,by decide +kernel,rfl,by decide +kernel,by decide +kernel⟩
theorem ok_letters (T:TL K mg base a tb):FnOk P w K mg base CX0 2 a.f_letters a.d_letters ["_law_way","_law_cell_here","_law_kinds_here","_law_size"] (sp_letters K a):=by
  refine T.f_letters.ok sc_letters (fun vs H Q E h=>?_) (fun cdv A outer s H vs Q E hr h=>?_)
  · obtain ⟨_,_,_,_,rfl,_⟩:=h;rfl
  · have hu64:=hr.units
    have hu1:=Nat.lt_of_le_of_lt (Nat.add_le_add_left (show 1≤64 by decide) _) hu64
    obtain ⟨w_,c,m,n,rfl,hm,h4,hn,q⟩:=h
    refine ⟨_,(pss_cons (ps_set (i:=4) sc_letters.nd rfl (Or.inl rfl) (pe_strT (l:=[]) (by decide +kernel)))
      (pss_cons (ps_set (i:=5) sc_letters.nd rfl (Or.inl rfl) (pv 1))
      (pss_cons (ps_for PassesOwn.never rfl (pi_range1 rfl T.z_range (pa_cons (pv 3) pa_nil)) (pg_name (i:=6) sc_letters.nd rfl (Or.inl rfl))
      (pss_cons (ps_set (i:=7) sc_letters.nd rfl (Or.inl rfl) (pv 5))
      (pss_cons (ps_if (PW.pt (pw_or (pt_cmpR (op_eqDK (K:=K) rfl hu64) (pe_op op_mod (pv 0) pe_int) pe_int (nomark _)) (pw_or1 (pt_cmpR (op_in_seqK (K:=K) rfl) (pv 5) (pe_tup (pa_cons pe_int (pa_cons (pe_un un_neg pe_int) pa_nil))) rfl)))) (pss_one (ps_set (i:=7) sc_letters.nd rfl (Or.inl rfl) (pe_call (ok_mixed T) (hr.mono (by decide)) rfl T.m_mixed T.f_mixed.kp T.b_mixed .nil pass0 (pa_cons (pv 1) (pa_cons (pe_op op_add pe_int (pv 6)) pa_nil))))) pss_nil)
      (pss_cons (ps_set (i:=4) sc_letters.nd rfl (Or.inl rfl) (pe_op op_add_tx (pv 4) (pe_ix ix_tx (pv 2) (pe_op op_mod (pv 7) (pe_callB (call_lenK (K:=K) rfl) rfl T.z_len bt_len (pa_cons (pv 2) pa_nil))) (fun _ _=>rfl))))
      (pss_one (ps_set (i:=5) sc_letters.nd rfl (Or.inl rfl) (pe_op op_fdiv (pv 5) (pe_callB (call_lenK (K:=K) rfl) rfl T.z_len bt_len (pa_cons (pv 2) pa_nil)))))))))
      (pss_cons (ps_if (PW.pt (pw_and (pt_cmpR (op_eqDK (K:=K) rfl hu64) (pe_op op_mod (pe_op op_fdiv (pv 0) pe_int) pe_int) pe_int (nomark _)) (pw_and1 (pt_cmpR op_gt (pv 3) pe_int (nomark _))))) (pss_cons (ps_set (i:=8) sc_letters.nd rfl (Or.inl rfl) (pe_op op_mod (pe_op op_fdiv (pv 0) pe_int) (pv 3)))
      (pss_cons (ps_set (i:=4) sc_letters.nd rfl (Or.inl rfl) (pe_slice sl_tx (pe_op op_mul_tx (pe_slice sl_tx (pv 4) po_none (po_some (pe_op op_add pe_int (pe_op op_mod (pe_op op_fdiv (pv 0) pe_int) pe_int)))) (pv 3)) po_none (po_some (pv 3))))
      (pss_cons (ps_set (i:=9) sc_letters.nd rfl (Or.inl rfl) (pe_ix ix_tx (pv 2) (pe_op op_mod (pe_op op_fdiv (pv 0) pe_int) (pe_callB (call_lenK (K:=K) rfl) rfl T.z_len bt_len (pa_cons (pv 2) pa_nil))) (fun _ _=>rfl)))
      (pss_one (ps_if (pt_cmpR (op_eqDK (K:=K) rfl hu64) (pe_op op_mod (pe_op op_fdiv (pv 0) pe_int) pe_int) pe_int (nomark _)) (pss_one (ps_set (i:=4) sc_letters.nd rfl (Or.inl rfl) (pe_op op_add_tx (pe_op op_add_tx (pe_slice sl_tx (pv 4) po_none (po_some (pv 8))) (pv 9)) (pe_slice sl_tx (pv 4) (po_some (pe_op op_add (pv 8) pe_int)) po_none)))) pss_nil))))) pss_nil)
      (pss_one (ps_ret (pv 4))))))),?_⟩
    walk_at "rd"
    have hM:m.length≤1000:=by omega
    have sz:m.length≤sizeLine:=Nat.le_trans hM (by rw[sizeLine_eq];decide)
    have pm:(0:Int) < m.length:=by omega
    have at_:∀ x:Int,∃ v,atI m (x % m.length)=some v∧v∈m:=fun x=>atI_ok (Int.emod_nonneg _ (by omega)) (Int.emod_lt_of_pos _ pm)
    refine ⟨_,rfl,by omega,by omega,ForRun.range (fun i σ H'=>Same H H'∧∃ (f:List Nat) (le:Int) (v6 v7:Option V),σ=[some (.int w_),some (.int c),some (tx m),some (.int (n:Nat)),some (tx f),some (.int le),v6,v7,none,none]∧f.length=i∧∀ x∈f,x∈m) ⟨Same.refl _,[],c,none,none,rfl,rfl,fun x hx=>by cases hx⟩ ?_ ?_⟩
    · rintro i σ H1 hi ⟨s1,f,le,v6,v7,rfl,hf,hfm⟩
      have sf:f.length + 1≤sizeLine:=by rw[sizeLine_eq];omega
      have cd:CDiv le m.length:=⟨pm,by omega⟩
      have mem:∀ {v:Nat},v∈m→∀ x∈f++[v],x∈m:=fun hv x hx=>(List.mem_append.mp hx).elim (hfm x) fun h=>by rw[List.mem_singleton.mp h];exact hv
      walk_at "rd"
      refine ⟨by decide,.inl ⟨rfl,_,rfl,ite2 (fun h=>iteT' ?_) (fun h=>⟨by rw[sizeLine_eq];decide,NewT.of fun p2 H2 s2 n2 l2=>⟨p2,_,rfl,.inr (.mk l2),rfl,rfl,_,rfl,ite2 (fun h=>?_) (fun h=>?_)⟩⟩)⟩⟩
      · refine ⟨_,_,rfl,fun r hr=>?_⟩
        walk_at "rd"
        obtain ⟨c1,hc1,hm1⟩:=at_ r
        exact ⟨_,_,rfl,lenTx hM,pm,m,_,c1,rfl,rfl,sz,hc1,sf,_,_,rfl,lenTx hM,cd,s1,_,_,_,_,rfl,by simp [hf],mem hm1⟩
      · refine ⟨_,_,rfl,fun r hr=>?_⟩
        walk_at "rd"
        obtain ⟨c1,hc1,hm1⟩:=at_ r
        exact ⟨_,_,rfl,lenTx hM,pm,m,_,c1,rfl,rfl,sz,hc1,sf,_,_,rfl,lenTx hM,cd,s1.trans s2,_,_,_,_,rfl,by simp [hf],mem hm1⟩
      · obtain ⟨c1,hc1,hm1⟩:=at_ le
        exact ⟨_,_,rfl,lenTx hM,pm,m,_,c1,rfl,rfl,sz,hc1,sf,_,_,rfl,lenTx hM,cd,s1.trans s2,_,_,_,_,rfl,by simp [hf],mem hm1⟩
    · rintro σ H1 ⟨s1,f,le,v6,v7,rfl,hf,hfm⟩
      rw[Int.toNat_natCast] at hf
      walk_at "rd"
      refine ⟨⟨by decide,by decide⟩,by decide,.inl ⟨rfl,_,rfl,ite2 (fun h=>ite2 (fun h2=>?_) (fun h2=>q f H1 hf hfm s1)) (fun h=>iteF (q f H1 hf hfm s1))⟩⟩
      have hn0:0 < n:=by have:=of_decide_eq_true h2;omega
      obtain ⟨c1,hc1,hm1⟩:=at_ (w_ / 2000)
      have cl:=cut_length f none (some (1 + w_ / 6 % 4))
      obtain ⟨g1,g2⟩:=fill (e:=1 + w_ / 6 % 4) hn0 hf hfm (by omega)
      have gl:(repT (cut f none (some (1 + w_ / 6 % 4))) (n:Nat)).length≤60 * 60:=by rw[repT_len,Int.toNat_natCast];exact Nat.mul_le_mul hn (by omega)
      have m0:=Int.emod_nonneg (w_ / 24) (show ((n:Nat):Int)≠0 by omega)
      have m1:=Int.emod_lt_of_pos (w_ / 24) (show (0:Int) < (n:Nat) by omega)
      refine ⟨⟨by decide,by decide⟩,by omega,⟨by decide,by decide⟩,by decide,_,rfl,f,rfl,by rw[sizeLine_eq];omega,_,_,rfl,rfl,by omega,by omega,by omega,_,rfl,_,rfl,by rw[sizeLine_eq];omega,⟨by decide,by decide⟩,_,_,rfl,lenTx hM,pm,m,_,c1,rfl,rfl,sz,hc1,⟨by decide,by decide⟩,by decide,.inl ⟨rfl,_,rfl,ite2 (fun h3=>?_) (fun h3=>q _ H1 g1 g2 s1)⟩⟩
      generalize cut (repT (cut f none (some (1 + w_ / 6 % 4))) (n:Nat)) none (some ((n:Nat):Int))=g at g1 g2
      obtain ⟨k1,k2⟩:=put1 (c:=c1) (i:=w_ / 24 % (n:Nat)) g1 g2 hm1 m0 m1
      have e1:=k1
      rw[List.length_append,List.length_append,List.length_singleton] at e1
      refine ⟨_,rfl,g,rfl,by rw[sizeLine_eq];omega,by rw[sizeLine_eq];omega,_,rfl,g,rfl,by rw[sizeLine_eq];omega,by rw[sizeLine_eq,List.length_append,List.length_singleton];omega,q _ H1 k1 k2 s1⟩
theorem sc_missing:FnScope ["_law_text","_law_kinds_here","_law_found","_law_length","_law_here","_law_shorter","_law_letter","_law_word"] ["_law_text","_law_kinds_here"] (defScope s_missing):=⟨rfl,rfl,rfl,by decide +kernel,rfl,by decide +kernel,by decide +kernel⟩
theorem ok_missing (T:TL K mg base a tb):FnOk P w K mg base CX0 2 a.f_missing a.d_missing ["_law_text","_law_kinds_here"] (sp_missing K a):=by
  refine T.f_missing.okC T.cd_missing sc_missing (fun vs H Q E h=>?_) (fun A outer s H vs Q E hr h=>?_)
  · obtain ⟨_,_,rfl,_⟩:=h;rfl
  · have hu64:=hr.units
    have hu1:=Nat.lt_of_le_of_lt (Nat.add_le_add_left (show 1≤64 by decide) _) hu64
    obtain ⟨l,m,rfl,ok,tk,q⟩:=h
    refine ⟨_,(pss_cons (ps_set (i:=2) sc_missing.nd rfl (Or.inl rfl) (pe_lst pa_nil))
      (pss_cons (ps_for PassesOwn.never rfl (pi_range2 rfl T.z_range (pa_cons pe_int (pa_cons (pe_op op_add (pe_callB (call_lenK (K:=K) rfl) rfl T.z_len bt_len (pa_cons (pv 0) pa_nil)) pe_int) pa_nil))) (pg_name (i:=3) sc_missing.nd rfl (Or.inl rfl))
      (pss_cons (ps_set (i:=4) sc_missing.nd rfl (Or.inl rfl) (pe_call (ok_lwords T) (hr.mono (by decide)) rfl T.m_lwords T.f_lwords.kp T.b_lwords .nil pass0 (pa_cons (pv 0) (pa_cons (pv 3) pa_nil))))
      (pss_cons (ps_set (i:=5) sc_missing.nd rfl (Or.inl rfl) (pe_call (ok_lwords T) (hr.mono (by decide)) rfl T.m_lwords T.f_lwords.kp T.b_lwords .nil pass0 (pa_cons (pv 0) (pa_cons (pe_op op_sub (pv 3) pe_int) pa_nil))))
      (pss_one (ps_for PassesOwn.never rfl (pi_text (pv 1)) (pg_name (i:=6) sc_missing.nd rfl (Or.inl rfl))
      (pss_one (ps_for PassesOwn.never rfl (pi_listK (K:=K) rfl (pv 5)) (pg_name (i:=7) sc_missing.nd rfl (Or.inl rfl))
      (pss_one (ps_if (PW.pt (pw_and (pt_cmpR (op_notIn_seqK (K:=K) rfl) (pe_op op_add_tx (pv 6) (pv 7)) (pv 4) rfl) (pw_and (pt_cmpR (op_in_seqK (K:=K) rfl) (pe_op op_add_tx (pv 6) (pe_slice sl_tx (pv 7) po_none (po_some (pe_un un_neg pe_int)))) (pv 5) rfl) (pw_and1 (pt_cmpR op_gt (pv 3) pe_int (nomark _)))))) (pss_one (ps_expr (pe_bm PySem.F.plainAttrs_list PySem.F.slot_list_append PySem.F.type_list_append mt_append (pv 2) (pa_cons (pe_op op_add_tx (pv 6) (pv 7)) pa_nil)))) (pss_one (ps_if (PW.pt (pw_and (pt_cmpR (op_eqDK (K:=K) rfl hu64) (pv 3) pe_int (nomark _)) (pw_and1 (pt_cmpR (op_notIn_seqK (K:=K) rfl) (pv 6) (pv 4) rfl)))) (pss_one (ps_expr (pe_bm PySem.F.plainAttrs_list PySem.F.slot_list_append PySem.F.type_list_append mt_append (pv 2) (pa_cons (pv 6) pa_nil)))) pss_nil)))))))))))
      (pss_hold (pss_one (ps_ret (pe_sortK (q:="_law_missing.<locals>.<lambda>") hr T.L_missing rfl rfl T.z_sorted T.z_len (pa_cons (pv 2) pa_nil) rfl rfl (by kernel_rfl) ⟨rfl,rfl,rfl,rfl,rfl,rfl⟩ (fun _ _ _ _ _=>.of_eq rfl))))))),?_⟩
    have l1:=ok.l1
    have l20:=ok.l20
    have m1:=ok.m1
    have m4:=ok.m4
    have sz:∀ k:Nat,k≤9000→k≤sizeLine:=fun k h=>Nat.le_trans h (by rw[sizeLine_eq];decide)
    walk_at "rd"
    refine ⟨Nat.zero_le _,NewL.of fun pf H1 s1 nf lf=>⟨_,_,rfl,lenTx (by omega),_,_,rfl,⟨by decide,by decide,by omega,by omega⟩,?_⟩⟩
    have ej:((l.length:Int) + 3 - 1).toNat=l.length + 2:=by omega
    rw[ej]
    refine ForRun.range (fun i σ H'=>∃ v3 v4 v5 v6 v7,σ=[some (tx l),some (tx m),some (.ref pf),v3,v4,v5,v6,v7]∧Same H H'∧H' pf=some (.lst ((missT l m i).map tx))) ⟨_,_,_,_,_,rfl,s1,lf⟩ ?_ ?_
    · rintro i σ H2 hi ⟨v3,v4,v5,v6,v7,rfl,s2,h2⟩
      have e1:(1 + (i:Int))=((i + 1:Nat):Int):=by omega
      have e2:(((i + 1:Nat):Int) - 1)=((i:Nat):Int):=by omega
      rw[e1]
      walk_at "rd"
      refine ⟨l,i + 1,rfl,l1,l20,by omega,fun p1 H3 s3 n3 l3=>⟨l,i,by rw[e2],l1,l20,by omega,fun p2 H4 s4 n4 l4=>?_⟩⟩
      have ne1:pf≠p1:=ne_of_none h2 n3
      have ne2:pf≠p2:=ne_of_none (s3 _ _ h2) n4
      have tl:=missT_len l m i l20 m4
      refine ⟨m,rfl,ForRun.text (fun j σ H'=>∃ v6 v7,σ=[some (tx l),some (tx m),some (.ref pf),some (.int ((i + 1:Nat):Int)),some (.ref p1),some (.ref p2),v6,v7]∧Same H H'∧H' p1=some (.lst ((ringWords l (i + 1)).map tx))∧H' p2=some (.lst ((ringWords l i).map tx))∧H' pf=some (.lst ((missT l m i++(m.take j).flatMap (missC l i)).map tx))) ⟨_,_,rfl,s2.trans (s3.trans s4),s4 _ _ l3,l4,by simpa using (s3.trans s4) _ _ h2⟩ ?_ ?_⟩
      · rintro j c σ H5 hc ⟨v6,v7,rfl,s5,a5,b5,h5⟩
        have fl:=flatMap_len (f:=missC l i) (fun c=>missC_len l i c l20) (m.take j)
        have tj:(m.take j).length≤4:=by rw[List.length_take];omega
        walk_at "rd"
        refine ⟨p2,rfl,⟨_,.mk b5⟩,ForRun.list (xs:=(ringWords l i).map tx) (fun k σ H'=>∃ v7,σ=[some (tx l),some (tx m),some (.ref pf),some (.int ((i + 1:Nat):Int)),some (.ref p1),some (.ref p2),some (tx [c]),v7]∧Same H H'∧H' p1=some (.lst ((ringWords l (i + 1)).map tx))∧H' p2=some (.lst ((ringWords l i).map tx))∧H' pf=some (.lst ((missT l m i++(m.take j).flatMap (missC l i)++(((ringWords l i).take k).filter (mP l i c)).map (c :: ·)).map tx))) ⟨_,rfl,s5,a5,b5,by simpa using h5⟩ (fun k σ H' _ ⟨_,_,_,_,b',_⟩=>.mk b') ?_ ?_⟩
        · rintro k x σ H6 hx ⟨v7,rfl,s6,a6,b6,h6⟩
          obtain ⟨w,hw,rfl⟩:∃ w,(ringWords l i)[k]?=some w∧x=tx w:=by
            rw[List.getElem?_map] at hx
            cases e:(ringWords l i)[k]? with
            | none=>rw[e] at hx;cases hx
            | some w=>rw[e] at hx;exact ⟨w,rfl,(Option.some.inj hx).symm⟩
          have wl:=((mem_ringW l1).mp (List.mem_of_getElem? hw)).1
          have fk:=List.length_filter_le (mP l i c) ((ringWords l i).take k)
          rw[List.length_take] at fk
          have rl:=ringWords_len l i
          have fe:((ringWords l i).take (k + 1)).filter (mP l i c)=((ringWords l i).take k).filter (mP l i c)++if mP l i c w=true then [w] else []:=by
            rw[take_next hw,List.filter_append]
            congr 1
            by_cases z:mP l i c w=true
            · rw[if_pos z,List.filter_cons_of_pos z];rfl
            · rw[if_neg z,List.filter_cons_of_neg z];rfl
          rw[fe]
          have put:∀ {H':Hp},H'=H6→mP l i c w=true→∃ v7,[some (tx l),some (tx m),some (.ref pf),some (.int ((i + 1:Nat):Int)),some (.ref p1),some (.ref p2),some (tx [c]),some (tx w)]=[some (tx l),some (tx m),some (.ref pf),some (.int ((i + 1:Nat):Int)),some (.ref p1),some (.ref p2),some (tx [c]),v7]∧Same H (upd H' pf (.lst ((missT l m i++(m.take j).flatMap (missC l i)++(((ringWords l i).take k).filter (mP l i c)).map (c :: ·)).map tx++[tx (c :: w)])))∧upd H' pf (.lst ((missT l m i++(m.take j).flatMap (missC l i)++(((ringWords l i).take k).filter (mP l i c)).map (c :: ·)).map tx++[tx (c :: w)])) p1=some (.lst ((ringWords l (i + 1)).map tx))∧upd H' pf (.lst ((missT l m i++(m.take j).flatMap (missC l i)++(((ringWords l i).take k).filter (mP l i c)).map (c :: ·)).map tx++[tx (c :: w)])) p2=some (.lst ((ringWords l i).map tx))∧upd H' pf (.lst ((missT l m i++(m.take j).flatMap (missC l i)++(((ringWords l i).take k).filter (mP l i c)).map (c :: ·)).map tx++[tx (c :: w)])) pf=some (.lst ((missT l m i++(m.take j).flatMap (missC l i)++(((ringWords l i).take k).filter (mP l i c)++if mP l i c w=true then [w] else []).map (c :: ·)).map tx)):=by
            rintro H' rfl hz
            refine ⟨_,rfl,same_upd3 s6 nf,by rw[upd_ne (Ne.symm ne1)];exact a6,by rw[upd_ne (Ne.symm ne2)];exact b6,?_⟩
            rw[upd_same,if_pos hz]
            simp
          have skip:mP l i c w=false→H6 pf=some (.lst ((missT l m i++(m.take j).flatMap (missC l i)++(((ringWords l i).take k).filter (mP l i c)++if mP l i c w=true then [w] else []).map (c :: ·)).map tx)):=fun hz=>by
            rw[h6,if_neg (by rw[hz];exact Bool.false_ne_true),List.append_nil]
          have ln:((missT l m i++(m.take j).flatMap (missC l i)++(((ringWords l i).take k).filter (mP l i c)).map (c :: ·)).map tx).length + 1≤sizeLine:=by
            rw[List.length_map,List.length_append,List.length_append,List.length_map]
            refine sz _ ?_
            omega
          walk_at "rd"
          refine ⟨sz _ (by omega),p1,_,rfl,.inl (.mk a6),rfl,flat_tx _,_,rfl,?_⟩
          rw[if_pos rfl,inV_tx]
          rcases Nat.eq_zero_or_pos i with hz | hp
          · have ew:w=[]:=List.length_eq_zero_iff.mp (by omega)
            subst hz
            subst ew
            have d1:(if false=true then !decide (V.int ((0 + 1:Nat):Int)=V.int 1) else decide (V.int ((0 + 1:Nat):Int)=V.int 1))=true:=by rw[if_neg Bool.false_ne_true];exact decide_eq_true rfl
            by_cases t:[c]∈ringWords l (0 + 1)
            · have hm0:mP l 0 c []=false:=by unfold mP;rw[decide_eq_false (fun z=>z t)];rfl
              rw[decide_eq_true t,Bool.not_true]
              refine iteF (iteF (.inl ⟨rfl,true,by rw[d1],iteT ⟨p1,_,rfl,.inl (.mk a6),rfl,flat_tx _,_,rfl,?_⟩⟩))
              rw[if_pos rfl,inV_tx,decide_eq_true t,Bool.not_true]
              exact iteF ⟨_,rfl,s6,a6,b6,skip hm0⟩
            · have hm0:mP l 0 c []=true:=by unfold mP;rw[decide_eq_true t];rfl
              rw[decide_eq_false t,Bool.not_false]
              refine iteT ⟨_,rfl,[],rfl,sz _ (by simp),sz _ (by simp [cut]),p2,_,rfl,.inl (.mk b6),rfl,flat_tx _,_,rfl,?_⟩
              have el:rEqD K false (V.int ((0 + 1:Nat):Int)) (V.int 1) H6 fun x H'=>∃ k_2,x=V.bl k_2∧if k_2=true then rIn K true (tx [c]) (V.ref p1) H' fun x H'=>∃ k_3,x=V.bl k_3∧if k_3=true then tyV K "list" (V.ref pf) H'∧rAppend (V.ref pf) [tx [c]] H' fun x H1=>∃ v7,[some (tx l),some (tx m),some (.ref pf),some (.int ((0 + 1:Nat):Int)),some (.ref p1),some (.ref p2),some (tx [c]),some (tx [])]=[some (tx l),some (tx m),some (.ref pf),some (.int ((0 + 1:Nat):Int)),some (.ref p1),some (.ref p2),some (tx [c]),v7]∧Same H H1∧H1 p1=some (.lst ((ringWords l (0 + 1)).map tx))∧H1 p2=some (.lst ((ringWords l 0).map tx))∧H1 pf=some (.lst ((missT l m 0++(m.take j).flatMap (missC l 0)++(((ringWords l 0).take k).filter (mP l 0 c)++if mP l 0 c []=true then [[]] else []).map (c :: ·)).map tx)) else ∃ v7,[some (tx l),some (tx m),some (.ref pf),some (.int ((0 + 1:Nat):Int)),some (.ref p1),some (.ref p2),some (tx [c]),some (tx [])]=[some (tx l),some (tx m),some (.ref pf),some (.int ((0 + 1:Nat):Int)),some (.ref p1),some (.ref p2),some (tx [c]),v7]∧Same H H'∧H' p1=some (.lst ((ringWords l (0 + 1)).map tx))∧H' p2=some (.lst ((ringWords l 0).map tx))∧H' pf=some (.lst ((missT l m 0++(m.take j).flatMap (missC l 0)++(((ringWords l 0).take k).filter (mP l 0 c)++if mP l 0 c []=true then [[]] else []).map (c :: ·)).map tx)) else if false=true then tyV K "list" (V.ref pf) H'∧rAppend (V.ref pf) [tx [c]] H' fun x H1=>∃ v7,[some (tx l),some (tx m),some (.ref pf),some (.int ((0 + 1:Nat):Int)),some (.ref p1),some (.ref p2),some (tx [c]),some (tx [])]=[some (tx l),some (tx m),some (.ref pf),some (.int ((0 + 1:Nat):Int)),some (.ref p1),some (.ref p2),some (tx [c]),v7]∧Same H H1∧H1 p1=some (.lst ((ringWords l (0 + 1)).map tx))∧H1 p2=some (.lst ((ringWords l 0).map tx))∧H1 pf=some (.lst ((missT l m 0++(m.take j).flatMap (missC l 0)++(((ringWords l 0).take k).filter (mP l 0 c)++if mP l 0 c []=true then [[]] else []).map (c :: ·)).map tx)) else ∃ v7,[some (tx l),some (tx m),some (.ref pf),some (.int ((0 + 1:Nat):Int)),some (.ref p1),some (.ref p2),some (tx [c]),some (tx [])]=[some (tx l),some (tx m),some (.ref pf),some (.int ((0 + 1:Nat):Int)),some (.ref p1),some (.ref p2),some (tx [c]),v7]∧Same H H'∧H' p1=some (.lst ((ringWords l (0 + 1)).map tx))∧H' p2=some (.lst ((ringWords l 0).map tx))∧H' pf=some (.lst ((missT l m 0++(m.take j).flatMap (missC l 0)++(((ringWords l 0).take k).filter (mP l 0 c)++if mP l 0 c []=true then [[]] else []).map (c :: ·)).map tx)):=by
                refine .inl ⟨rfl,true,by rw[d1],iteT ⟨p1,_,rfl,.inl (.mk a6),rfl,flat_tx _,_,rfl,?_⟩⟩
                rw[if_pos rfl,inV_tx,decide_eq_false t,Bool.not_false]
                exact iteT ⟨.inl ⟨rfl,_,.mk h6⟩,pf,_,_,rfl,rfl,h6,ln,put rfl hm0⟩
              cases hb:(if false=true then !inV (tx (c :: cut [] none (some (-1)))) ((ringWords l 0).map tx) else inV (tx (c :: cut [] none (some (-1)))) ((ringWords l 0).map tx)) with
              | true=>exact iteT (by rw[decide_eq_false (by decide)];exact iteF el)
              | false=>exact iteF (iteF el)
          · have d1:(if false=true then !decide (V.int ((i + 1:Nat):Int)=V.int 1) else decide (V.int ((i + 1:Nat):Int)=V.int 1))=false:=by
              rw[if_neg Bool.false_ne_true]
              refine decide_eq_false fun e=>?_
              injection e with e
              omega
            have d2:decide (1 < ((i + 1:Nat):Int))=true:=decide_eq_true (by omega)
            by_cases t:c :: w∈ringWords l (i + 1)
            · have hm0:mP l i c w=false:=by unfold mP;rw[decide_eq_false (fun z=>z t)];rfl
              rw[decide_eq_true t,Bool.not_true]
              exact iteF (iteF (.inl ⟨rfl,false,by rw[d1],iteF (iteF ⟨_,rfl,s6,a6,b6,skip hm0⟩)⟩))
            · rw[decide_eq_false t,Bool.not_false]
              refine iteT ⟨_,rfl,w,rfl,sz _ (by omega),sz _ (by rw[cutLast,List.length_dropLast];omega),p2,_,rfl,.inl (.mk b6),rfl,flat_tx _,_,rfl,?_⟩
              rw[if_neg Bool.false_ne_true,inV_tx,cutLast]
              by_cases t2:c :: w.dropLast∈ringWords l i
              · have hm0:mP l i c w=true:=by unfold mP;rw[decide_eq_true t,decide_eq_true t2];simp
                rw[decide_eq_true t2,d2]
                exact iteT (iteT ⟨.inl ⟨rfl,_,.mk h6⟩,sz _ (by omega),pf,_,_,rfl,rfl,h6,ln,put rfl hm0⟩)
              · have hm0:mP l i c w=false:=by unfold mP;rw[decide_eq_true t,decide_eq_false t2,decide_eq_false (by omega)];rfl
                rw[decide_eq_false t2]
                exact iteF (iteF (.inl ⟨rfl,false,by rw[d1],iteF (iteF ⟨_,rfl,s6,a6,b6,skip hm0⟩)⟩))
        · rintro σ H6 ⟨v7,rfl,s6,a6,b6,h6⟩
          refine ⟨_,_,rfl,s6,a6,b6,?_⟩
          rw[h6,List.length_map,List.take_length,take_next hc,List.flatMap_append,List.flatMap_singleton,←List.append_assoc]
          rfl
      · rintro σ H5 ⟨v6,v7,rfl,s5,a5,b5,h5⟩
        refine ⟨_,_,_,_,_,rfl,s5,?_⟩
        rw[h5,List.take_length,missT_succ]
        rfl
    · rintro σ H2 ⟨v3,v4,v5,v6,v7,rfl,s2,h2⟩
      walk_at "rd?"
      refine hold_of ?_
      walk_at "rd"
      have tl:=missT_len l m (l.length + 2) l20 m4
      refine ⟨pf,_,rfl,h2,fun w hw=>?_,tk.same s2,fun ws' r H3 pm pw sl tk3 nr lr=>?_⟩
      · have:=((mem_missT l1).mp hw).2.2
        exact sz _ (by omega)
      · rw[miss_ring l1 (isk_rise ok.k) ok.mem (by omega) pm pw] at lr
        exact q r H3 (fun b o e t=>sl _ _ (s2 _ _ e) t) tk3 ((Nw.of nr).same s2) lr
theorem sc_Ring_reach:FnScope ["self"] ["self"] (defScope s_Ring_reach):=⟨rfl,rfl,rfl,by decide +kernel,rfl,by decide +kernel,by decide +kernel⟩
theorem ok_Ring_reach (T:TL K mg base a tb):FnOk P w K mg base CX0 2 a.g_Ring_reach a.e_Ring_reach ["self"] (sp_Ring_reach K a):=by
  refine T.fm_Ring_reach.ok sc_Ring_reach (fun vs H Q E h=>?_) (fun cdv A outer s H vs Q E hr h=>?_)
  · obtain ⟨_,_,_,rfl,_⟩:=h;rfl
  · have hu64:=hr.units
    have hu1:=Nat.lt_of_le_of_lt (Nat.add_le_add_left (show 1≤64 by decide) _) hu64
    obtain ⟨p,l,m,rfl,hp,ok,q⟩:=h
    refine ⟨_,(pss_one (ps_ret (pe_callB (call_lenK (K:=K) rfl) rfl T.z_len bt_len (pa_cons (pe_meth0 (pv 0) T.cl_Ring T.me_Ring_root (ok_Ring_root T) (hr.mono (by decide)) T.b_Ring_root .nil pass0) pa_nil)))),?_⟩
    obtain ⟨dx,hp⟩:=hp
    have l20:=ok.root.l20
    walk_at "rd"
    exact ⟨p,dx,_,rfl,hp,flds_no (by decide +kernel) (by decide +kernel),p,l,m,rfl,⟨dx,hp⟩,ok,_,_,rfl,lenTx (by omega),q⟩
theorem sc_Band_words:FnScope ["self","length"] ["self","length"] (defScope s_Band_words):=⟨rfl,rfl,rfl,by decide +kernel,rfl,by decide +kernel,by decide +kernel⟩
theorem ok_Band_words (T:TL K mg base a tb):FnOk P w K mg base CX0 2 a.g_Band_words a.e_Band_words ["self","length"] (sp_Band_words K a):=by
  refine T.fm_Band_words.ok sc_Band_words (fun vs H Q E h=>?_) (fun cdv A outer s H vs Q E hr h=>?_)
  · obtain ⟨_,_,_,_,rfl,_⟩:=h;rfl
  · have hu64:=hr.units
    have hu1:=Nat.lt_of_le_of_lt (Nat.add_le_add_left (show 1≤64 by decide) _) hu64
    obtain ⟨p,l,m,n,rfl,hp,ok,hn,q⟩:=h
    refine ⟨_,(pss_one (ps_ret (pe_call (ok_pieces T) (hr.mono (by decide)) rfl T.m_pieces T.f_pieces.kp T.b_pieces .nil pass0 (pa_cons (pe_meth (pv 0) T.cl_Ring T.me_Ring_laid_out (ok_Ring_laid_out T) (hr.mono (by decide)) T.b_Ring_laid_out .nil pass0 (pa_cons (pv 1) pa_nil)) (pa_cons (pv 1) pa_nil))))),?_⟩
    obtain ⟨dx,hp⟩:=hp
    have l1:=ok.l1
    have l20:=ok.l20
    have ll:=laid_len (l:=l) (n:=n) l1
    walk_at "rd"
    exact ⟨p,dx,_,rfl,hp,flds_no (by decide +kernel) (by decide +kernel),p,l,m,n,rfl,⟨dx,hp⟩,ok,hn,laidOut l n,n,rfl,by omega,by omega,by omega,fun q' H2 s2 n2 l2=>q q' H2 s2 n2 (by rw[l2,words_laid l1])⟩
theorem sc_need_kinds:FnScope ["thing"] ["thing"] (defScope s_need_kinds):=⟨rfl,rfl,rfl,by decide +kernel,rfl,by decide +kernel,by decide +kernel⟩
theorem ok_need_kinds (T:TL K mg base a tb):FnOk P w K mg base (CXr P w) 3 a.f_need_kinds a.d_need_kinds ["thing"] (sp_need_kinds K a):=by
  refine T.f_need_kinds.okX sc_need_kinds (fun vs H Q E h=>?_) (fun cdv A outer s H vs Q E hr h=>?_)
  · obtain ⟨_,rfl,_⟩:=h;rfl
  · have hu64:=hr.units
    have hu1:=Nat.lt_of_le_of_lt (Nat.add_le_add_left (show 1≤64 by decide) _) hu64
    obtain ⟨v,rfl,q⟩:=h
    refine ⟨_,(pss_one (ps_if (pt_not (pt_val (pe_call (ok_is_kinds T) (hr.mono (by decide)) rfl T.m_is_kinds T.f_is_kinds.kp T.b_is_kinds .nil pass0 (pa_cons (pv 0) pa_nil)))) (pss_one (ps_raise cx_raises rfl (pe_xmake0 T.x_NoKinds T.i_NoKinds rfl T.m_NoKinds (pa_cons (pe_strT (l:=[107,105,110,100,115,32,97,114,101,32,111,110,101,32,116,111,32,102,111,117,114,32,117,110,108,105,107,101,32,115,109,97,108,108,32,108,101,116,116,101,114,115,44,32,114,105,115,105,110,103]) (by decide +kernel)) pa_nil)))) pss_nil)),?_⟩
    walk_at "rd"
    have up:∀ H1,Same H H1→XNk a E H→(1≤1000∧Mk0 a.c_NoKinds H1 fun v H1=>∃ e C d,v=.ref e∧H1 e=some (xo e C d)∧Xm K C∧E (.ref C) (some e) (upd H1 e (xr e C d))):=fun H1 s1 z=>
      ⟨by decide,fun e he=>⟨e,_,none,rfl,upd_same,T.x_NoKinds,z e _ (s1.trans (same_upd2 he)) (.bare upd_same)⟩⟩
    rcases q with ⟨l,rfl,hl,hk,q⟩ | ⟨⟨l,rfl,hl,hk⟩ | o,q⟩
    · exact ⟨_,rfl,.inl ⟨l,rfl,hl,fun H2 s2=>⟨_,rfl,by rw[hk];exact iteF (q H2 s2)⟩⟩⟩
    · exact ⟨_,rfl,.inl ⟨l,rfl,hl,fun H2 s2=>⟨_,rfl,by rw[hk];exact iteT (up H2 s2 q)⟩⟩⟩
    · exact ⟨_,rfl,.inr ⟨o,_,rfl,iteT (up H (Same.refl _) q)⟩⟩
theorem sc_need_word:FnScope ["thing","kinds","most"] ["thing","kinds","most"] (defScope s_need_word):=⟨rfl,rfl,rfl,by decide +kernel,rfl,by decide +kernel,by decide +kernel⟩
theorem ok_need_word (T:TL K mg base a tb):FnOk P w K mg base (CXr P w) 3 a.f_need_word a.d_need_word ["thing","kinds","most"] (sp_need_word K a):=by
  refine T.f_need_word.okX sc_need_word (fun vs H Q E h=>?_) (fun cdv A outer s H vs Q E hr h=>?_)
  · obtain ⟨_,_,_,rfl,_⟩:=h;rfl
  · have hu64:=hr.units
    have hu1:=Nat.lt_of_le_of_lt (Nat.add_le_add_left (show 1≤64 by decide) _) hu64
    obtain ⟨v,m,most,rfl,q⟩:=h
    refine ⟨_,(pss_one (ps_if (pt_not (pt_val (pe_call (ok_is_word T) (hr.mono (by decide)) rfl T.m_is_word T.f_is_word.kp T.b_is_word .nil pass0 (pa_cons (pv 0) (pa_cons (pv 1) (pa_cons (pv 2) pa_nil)))))) (pss_one (ps_raise cx_raises rfl (pe_xmake T.x_NoWord T.i_NoWord T.fn_NoWord (ok_NoWord_init T) (hr.mono (by decide)) T.b_NoWord pass0 rfl T.m_NoWord (pa_cons (pv 0) pa_nil)))) pss_nil)),?_⟩
    walk_at "rd"
    have up:∀ H1,Same H H1→XNw a E H v→(1≤1000∧MkI (spInit K a.c_NoWord 1 (fs1 (Str.ofString "word"))) E0 a.c_NoWord [v] H1 fun v H1=>∃ e C d,v=.ref e∧H1 e=some (xo e C d)∧Xm K C∧E (.ref C) (some e) (upd H1 e (xr e C d))):=fun H1 s1 z=>
      ⟨by decide,MkI.of rfl fun e H2 s2 n2 x2=>by
        obtain ⟨d,hd,hx⟩:=raise_any x2
        exact ⟨e,_,d,rfl,hd,T.x_NoWord,z e _ (s1.trans (same_upd3 s2 n2)) hx⟩⟩
    rcases q with ⟨l,rfl,hl,hk,q⟩ | ⟨⟨l,rfl,hl,hk⟩ | o,q⟩
    · exact ⟨_,_,_,rfl,.inl ⟨l,rfl,hl,fun H2 s2=>⟨_,rfl,by rw[hk];exact iteF (q H2 s2)⟩⟩⟩
    · exact ⟨_,_,_,rfl,.inl ⟨l,rfl,hl,fun H2 s2=>⟨_,rfl,by rw[hk];exact iteT (up H2 s2 q)⟩⟩⟩
    · exact ⟨_,_,_,rfl,.inr ⟨o,_,rfl,iteT (up H (Same.refl _) q)⟩⟩
theorem sc_lring:FnScope ["_law_script","_law_at","_law_kinds_here","_law_cell_here","_law_size"] ["_law_script","_law_at","_law_kinds_here"] (defScope s_lring):=⟨rfl,rfl,rfl,by decide +kernel,rfl,by decide +kernel,by decide +kernel⟩
theorem ok_lring (T:TL K mg base a tb):FnOk P w K mg base CX0 3 a.f_lring a.d_lring ["_law_script","_law_at","_law_kinds_here"] (sp_lring K a):=by
  refine T.f_lring.ok sc_lring (fun vs H Q E h=>?_) (fun cdv A outer s H vs Q E hr h=>?_)
  · obtain ⟨_,_,_,_,rfl,_⟩:=h;rfl
  · have hu64:=hr.units
    have hu1:=Nat.lt_of_le_of_lt (Nat.add_le_add_left (show 1≤64 by decide) _) hu64
    obtain ⟨b,ns,k,m,rfl,hS,hk,hk1,hm,h4,q⟩:=h
    refine ⟨_,(pss_cons (ps_set (i:=3) sc_lring.nd rfl (Or.inl rfl) (pe_call (ok_lcell T) (hr.mono (by decide)) rfl T.m_lcell T.f_lcell.kp T.b_lcell .nil pass0 (pa_cons (pv 0) (pa_cons (pv 1) pa_nil))))
      (pss_cons (ps_set (i:=4) sc_lring.nd rfl (Or.inl rfl) (pe_op op_add pe_int (pe_op op_mod (pv 3) pe_int)))
      (pss_cons (ps_if (pt_cmpR (op_eqDK (K:=K) rfl hu64) (pe_op op_mod (pe_op op_fdiv (pv 3) pe_int) pe_int) pe_int (nomark _)) (pss_one (ps_set (i:=4) sc_lring.nd rfl (Or.inl rfl) (pe_op op_add pe_int (pe_op op_mod (pe_op op_fdiv (pv 3) pe_int) pe_int)))) pss_nil)
      (pss_one (ps_ret (pe_call (ok_letters T) (hr.mono (by decide)) rfl T.m_letters T.f_letters.kp T.b_letters .nil pass0 (pa_cons (pe_call (ok_lcell T) (hr.mono (by decide)) rfl T.m_lcell T.f_lcell.kp T.b_lcell .nil pass0 (pa_cons (pv 0) (pa_cons (pe_op op_add (pv 1) pe_int) pa_nil))) (pa_cons (pe_call (ok_lcell T) (hr.mono (by decide)) rfl T.m_lcell T.f_lcell.kp T.b_lcell .nil pass0 (pa_cons (pv 0) (pa_cons (pe_op op_add (pv 1) pe_int) pa_nil))) (pa_cons (pv 2) (pa_cons (pv 4) pa_nil)))))))))),?_⟩
    walk_at "rd"
    refine ⟨b,ns,k,rfl,hS,hk,by omega,fun c=>?_⟩
    walk_at "rd"
    refine ⟨by decide,⟨by decide,by decide⟩,by decide,.inl ⟨rfl,_,rfl,ite2 (fun h=>?_) (fun h=>?_)⟩⟩
    · refine ⟨⟨by decide,by decide⟩,by decide,b,ns,_,rfl,hS,by omega,by omega,fun w1=>⟨b,ns,_,rfl,hS,by omega,by omega,fun w2=>⟨w1,w2,m,(1 + c / 32 % 20).toNat,?_,hm,h4,by omega,fun l H2 hl hx s2=>q l H2 (by omega) (by omega) hx s2⟩⟩⟩
      have:(((1 + c / 32 % 20).toNat:Nat):Int)=1 + c / 32 % 20:=by omega
      rw[this]
    · refine ⟨b,ns,_,rfl,hS,by omega,by omega,fun w1=>⟨b,ns,_,rfl,hS,by omega,by omega,fun w2=>⟨w1,w2,m,(1 + c % 8).toNat,?_,hm,h4,by omega,fun l H2 hl hx s2=>q l H2 (by omega) (by omega) hx s2⟩⟩⟩
      have:(((1 + c % 8).toNat:Nat):Int)=1 + c % 8:=by omega
      rw[this]
theorem sc_asked:FnScope ["_law_cell_here","_law_text","_law_kinds_here","_law_size","_law_start","_law_word","_law_at","_law_letter"] ["_law_cell_here","_law_text","_law_kinds_here"] (defScope s_asked):=⟨rfl,rfl,rfl,by decide +kernel,rfl,by decide +kernel,by decide +kernel⟩
theorem ok_asked (T:TL K mg base a tb):FnOk P w K mg base CX0 3 a.f_asked a.d_asked ["_law_cell_here","_law_text","_law_kinds_here"] (sp_asked K a):=by
  refine T.f_asked.ok sc_asked (fun vs H Q E h=>?_) (fun cdv A outer s H vs Q E hr h=>?_)
  · obtain ⟨_,_,_,rfl,_⟩:=h;rfl
  · have hu64:=hr.units
    have hu1:=Nat.lt_of_le_of_lt (Nat.add_le_add_left (show 1≤64 by decide) _) hu64
    obtain ⟨c,l,m,rfl,ok,q⟩:=h
    refine ⟨_,(pss_cons (ps_set (i:=3) sc_asked.nd rfl (Or.inl rfl) (pe_op op_add pe_int (pe_ix (ix_listK (K:=K) rfl) (pe_lst (pa_cons (pe_op op_mod (pe_op op_fdiv (pv 0) pe_int) pe_int) (pa_cons (pe_op op_mod (pe_op op_fdiv (pv 0) pe_int) pe_int) pa_nil))) (pe_callTy call_int1 rfl T.z_int bt_int (pa_cons (pe_cmpR (op_eqDK (K:=K) rfl hu64) (pe_op op_mod (pv 0) pe_int) pe_int (nomark _)) pa_nil)) (fun _ _=>rfl))))
      (pss_cons (ps_set (i:=4) sc_asked.nd rfl (Or.inl rfl) (pe_op op_mod (pe_op op_fdiv (pv 0) pe_int) (pe_callB (call_lenK (K:=K) rfl) rfl T.z_len bt_len (pa_cons (pv 1) pa_nil))))
      (pss_cons (ps_set (i:=5) sc_asked.nd rfl (Or.inl rfl) (pe_slice sl_tx (pe_op op_mul_tx (pv 1) pe_int) (po_some (pv 4)) (po_some (pe_op op_add (pv 4) (pv 3)))))
      (pss_cons (ps_set (i:=6) sc_asked.nd rfl (Or.inl rfl) (pe_op op_mod (pe_op op_fdiv (pv 0) pe_int) (pv 3)))
      (pss_cons (ps_set (i:=7) sc_asked.nd rfl (Or.inl rfl) (pe_ix ix_tx (pv 2) (pe_op op_mod (pe_op op_fdiv (pv 0) pe_int) (pe_callB (call_lenK (K:=K) rfl) rfl T.z_len bt_len (pa_cons (pv 2) pa_nil))) (fun _ _=>rfl)))
      (pss_cons (ps_if (pt_cmpR op_gt (pe_op op_mod (pe_op op_fdiv (pv 0) pe_int) pe_int) pe_int (nomark _)) (pss_one (ps_ret (pe_op op_add_tx (pe_op op_add_tx (pe_slice sl_tx (pv 5) po_none (po_some (pv 6))) (pv 7)) (pe_slice sl_tx (pv 5) (po_some (pe_op op_add (pv 6) pe_int)) po_none)))) pss_nil)
      (pss_one (ps_ret (pe_call (ok_letters T) (hr.mono (by decide)) rfl T.m_letters T.f_letters.kp T.b_letters .nil pass0 (pa_cons (pe_op op_fdiv (pv 0) pe_int) (pa_cons (pe_op op_fdiv (pv 0) pe_int) (pa_cons (pv 2) (pa_cons (pv 3) pa_nil))))))))))))),?_⟩
    have l1:=ok.l1
    have l20:=ok.l20
    have m1:=ok.m1
    have m4:=ok.m4
    have sz:∀ k:Nat,k≤2000→k≤sizeLine:=fun k h=>Nat.le_trans h (by rw[sizeLine_eq];decide)
    have cd:∀ (x:Int) (k:Int),0 < k→k < 1073741824→CDiv x k:=fun _ _ a b=>⟨a,b⟩
    walk_at "rd"
    refine ⟨cd _ _ (by decide) (by decide),by decide,cd _ _ (by decide) (by decide),by decide,sz _ (by decide),NewL.of fun p1 H1 s1 n1 l1'=>⟨by decide,.inl ⟨rfl,.inr ⟨_,rfl,?_⟩⟩⟩⟩
    obtain ⟨n,hn,hz⟩:=at2m (x:=c / 4 % 12) (y:=c / 4 % 60) (k:=if false=true then !decide (V.int (c % 4)=V.int 3) else decide (V.int (c % 4)=V.int 3)) (by omega) (by omega) (by omega) (by omega)
    refine ⟨p1,_,_,_,rfl,rfl,.mk l1',hz,?_⟩
    have pl:(0:Int) < l.length:=by omega
    have pm:(0:Int) < m.length:=by omega
    have st0:=Int.emod_nonneg (c / 240) (show ((l.length:Nat):Int)≠0 by omega)
    obtain ⟨st,hst⟩:∃ st:Nat,c / 240 % (l.length:Nat)=(st:Int):=⟨(c / 240 % (l.length:Nat)).toNat,by omega⟩
    obtain ⟨c1,hc1,mc1⟩:=atI_ok (xs:=m) (i:=c / 288000 % m.length) (Int.emod_nonneg _ (by omega)) (Int.emod_lt_of_pos _ pm)
    have lr:=repT_len l 62
    have lr2:(62:Int).toNat * l.length≤62 * 20:=Nat.mul_le_mul (by decide) l20
    have rm:∀ x∈repT l 62,x∈m:=fun x hx=>ok.mem x (repT_mem hx)
    have wl:(cut (repT l 62) (some (c / 240 % (l.length:Nat))) (some (c / 240 % (l.length:Nat) + (1 + (n:Int))))).length≤n + 1:=by
      have e2:((st:Nat):Int) + (1 + (n:Nat))=((st + (n + 1):Nat):Int):=by omega
      rw[hst,e2,cut_nn,List.length_take]
      omega
    have wm:∀ x∈cut (repT l 62) (some (c / 240 % (l.length:Nat))) (some (c / 240 % (l.length:Nat) + (1 + (n:Int)))),x∈m:=fun x hx=>rm x (List.mem_of_mem_drop (List.mem_of_mem_take hx))
    have p5:(0:Int) < 1 + (n:Int):=by omega
    refine ⟨_,_,rfl,rfl,cd _ _ (by decide) (by decide),_,_,rfl,lenTx (by omega),pl,l,62,rfl,rfl,by decide,by decide,by omega,_,rfl,_,_,rfl,rfl,_,rfl,_,rfl,sz _ (by omega),cd _ _ (by decide) (by decide),_,_,rfl,rfl,p5,cd _ _ (by decide) (by decide),_,_,rfl,lenTx (by omega),pm,m,_,c1,rfl,rfl,sz _ (by omega),hc1,cd _ _ (by decide) (by decide),by decide,?_⟩
    generalize hw0:cut (repT l 62) (some (c / 240 % (l.length:Nat))) (some (c / 240 % (l.length:Nat) + (1 + (n:Int))))=w0 at wl wm
    have a0:=Int.emod_nonneg (c / 4800) (show 1 + (n:Int)≠0 by omega)
    have a1:=Int.emod_lt_of_pos (c / 4800) p5
    have cl:=cut_length w0 none (some (c / 4800 % (1 + (n:Int))))
    have cr:=cut_length w0 (some (c / 4800 % (1 + (n:Int)) + 1)) none
    refine ite2 (fun _=>?_) (fun _=>⟨cd _ _ (by decide) (by decide),cd _ _ (by decide) (by decide),c / 6,c / 36,m,n + 1,?_,m1,m4,by omega,fun l2 H2 e2 hm2 s2=>q l2 H2 (by omega) hm2 (s1.trans s2)⟩)
    · refine ⟨_,rfl,w0,rfl,sz _ (by omega),sz _ (by omega),_,_,rfl,rfl,_,rfl,w0,rfl,sz _ (by omega),sz _ (by rw[List.length_append,List.length_singleton];omega),q _ H1 ?_ (fun x hx=>?_) s1⟩
      · rw[List.length_append,List.length_append,List.length_singleton,cutTo _ a0,cutFrom _ (by omega),List.length_take,List.length_drop]
        omega
      · rcases List.mem_append.mp hx with h | h
        · rcases List.mem_append.mp h with h | h
          · exact wm x (List.mem_of_mem_drop (List.mem_of_mem_take h))
          · rw[List.mem_singleton.mp h];exact mc1
        · exact wm x (List.mem_of_mem_drop (List.mem_of_mem_take h))
    · have e:((n + 1:Nat):Int)=1 + (n:Int):=by omega
      show [V.int (c / 6),V.int (c / 36),tx m,V.int (1 + (n:Int))]=_
      rw[e]
theorem sc_Band_lacking:FnScope ["self","found","shorter","length","standing"] ["self"] (defScope s_Band_lacking):=⟨rfl,rfl,rfl,by decide +kernel,rfl,by decide +kernel,by decide +kernel⟩
theorem ok_Band_lacking (T:TL K mg base a tb):FnOk P w K mg base CX0 3 a.g_Band_lacking a.e_Band_lacking ["self"] (sp_Band_lacking K a):=by
  refine T.fm_Band_lacking.ok sc_Band_lacking (fun vs H Q E h=>?_) (fun cdv A outer s H vs Q E hr h=>?_)
  · obtain ⟨_,_,_,rfl,_⟩:=h;rfl
  · have hu64:=hr.units
    have hu1:=Nat.lt_of_le_of_lt (Nat.add_le_add_left (show 1≤64 by decide) _) hu64
    obtain ⟨p,l,m,rfl,hp,ok,q⟩:=h
    refine ⟨_,(pss_cons (ps_set (i:=1) sc_Band_lacking.nd rfl (Or.inl rfl) (pe_lst pa_nil))
      (pss_cons (ps_set (i:=2) sc_Band_lacking.nd rfl (Or.inl rfl) (pe_meth (pv 0) T.cl_Ring T.me_Ring_words (ok_Band_words T) (hr.mono (by decide)) T.b_Band_words .nil pass0 (pa_cons pe_int pa_nil)))
      (pss_cons (ps_for PassesOwn.never rfl (pi_range2 rfl T.z_range (pa_cons pe_int (pa_cons (pe_op op_add (pe_meth0 (pv 0) T.cl_Ring T.me_Ring_reach (ok_Ring_reach T) (hr.mono (by decide)) T.b_Ring_reach .nil pass0) pe_int) pa_nil))) (pg_name (i:=3) sc_Band_lacking.nd rfl (Or.inl rfl))
      (pss_cons (ps_set (i:=4) sc_Band_lacking.nd rfl (Or.inl rfl) (pe_meth (pv 0) T.cl_Ring T.me_Ring_words (ok_Band_words T) (hr.mono (by decide)) T.b_Band_words .nil pass0 (pa_cons (pv 3) pa_nil)))
      (pss_cons (ps_expr (pe_bm PySem.F.plainAttrs_list PySem.F.slot_list_extend PySem.F.type_list_extend mt_extend (pv 1) (pa_cons (pe_call (ok_among T) (hr.mono (by decide)) rfl T.m_among T.f_among.kp T.b_among .nil pass0 (pa_cons (pv 2) (pa_cons (pv 4) (pa_cons (pe_fldK (K:=K) rfl (pv 0) rfl) pa_nil)))) pa_nil)))
      (pss_one (ps_set (i:=2) sc_Band_lacking.nd rfl (Or.inl rfl) (pv 4))))))
      (pss_one (ps_ret (pv 1)))))),?_⟩
    obtain ⟨dx,hp⟩:=hp
    have l1:=ok.l1
    have l20:=ok.l20
    have m4:=ok.m4
    obtain ⟨r1,r2,_⟩:=rootLen_per l1
    walk_at "rd"
    refine ⟨Nat.zero_le _,NewL.of fun pf H1 s1 nf lf=>?_⟩
    refine ⟨p,dx,_,rfl,s1 _ _ hp,flds_no (by decide +kernel) (by decide +kernel),p,l,m,0,rfl,⟨dx,s1 _ _ hp⟩,ok,by omega,fun q0 H2 s2 n2 e2=>?_⟩
    refine ⟨p,dx,_,rfl,(s1.trans s2) _ _ hp,flds_no (by decide +kernel) (by decide +kernel),p,l,m,rfl,⟨dx,(s1.trans s2) _ _ hp⟩,ok,?_⟩
    rw[root_len l1]
    walk_at "rd?"
    have ej:((rootLen l:Nat) + 1 - 1:Int).toNat=rootLen l:=by omega
    refine ⟨_,_,rfl,⟨by omega,by omega,by omega,by omega⟩,?_⟩
    rw[ej]
    refine ForRun.range (fun i σ H'=>∃ (v3 v4:Option V) (q0:Addr),σ=[some (.ref p),some (.ref pf),some (.ref q0),v3,v4]∧Same H H'∧H' pf=some (.lst ((lackRT l m i).map tx))∧H' q0=some (.lst ((ringWords l i).map tx))∧pf≠q0) ⟨_,_,q0,rfl,s1.trans s2,s2 _ _ lf,e2,ne_of_none lf n2⟩ ?_ ?_
    · rintro i σ H3 hi ⟨v3,v4,q0,rfl,s3,h3,h4,ne0⟩
      have e1:(1 + (i:Int))=((i + 1:Nat):Int):=by omega
      have la:=lackRT_len (l:=l) (m:=m) (i:=i + 1) m4 l20
      rw[lackRT_succ,List.length_append] at la
      rw[e1]
      walk_at "rd"
      refine ⟨p,dx,_,rfl,s3 _ _ hp,flds_no (by decide +kernel) (by decide +kernel),p,l,m,i + 1,rfl,⟨dx,s3 _ _ hp⟩,ok,by omega,fun q1 H4 s4 n4 e4=>?_⟩
      have h3':=s4 _ _ h3
      have ne1:pf≠q1:=ne_of_none h3 n4
      refine ⟨.inl ⟨rfl,_,.mk h3'⟩,p,_,dx,_,_,rfl,(s3.trans s4) _ _ hp,T.cl_Ring,T.n_Ring_own_kinds,flds_kinds,?_⟩
      refine ⟨q0,q1,ringWords l i,ringWords l (i + 1),m,rfl,s4 _ _ h4,e4,by have:=ringWords_len l i;omega,m4,fun w hw=>by have:=((mem_ringW l1).mp hw).1;omega,fun r H5 s5 n5 e5=>?_⟩
      refine ⟨pf,r,_,_,rfl,rfl,s5 _ _ h3',e5,by rw[List.length_map,List.length_map,sizeLine_eq];omega,_,_,q1,rfl,same_upd3 (s3.trans (s4.trans s5)) nf,?_,?_,ne1⟩
      · rw[upd_same,lackRT_succ,List.map_append]
      · rw[upd_ne (Ne.symm ne1)]
        exact s5 _ _ e4
    · rintro σ H3 ⟨v3,v4,q0,rfl,s3,h3,h4,ne0⟩
      walk_at "rd"
      exact q pf H3 s3 nf h3
theorem sc_Ring_init:FnScope ["self","text","kinds"] ["self","text","kinds"] (defScope s_Ring_init):=⟨rfl,rfl,rfl,by decide +kernel,rfl,by decide +kernel,by decide +kernel⟩
theorem ok_Ring_init (T:TL K mg base a tb):FnOk P w K mg base (CXr P w) 4 a.g_Ring_init a.e_Ring_init ["self","text","kinds"] (sp_Ring_init K a):=by
  refine T.fm_Ring_init.okX sc_Ring_init (fun vs H Q E h=>?_) (fun cdv A outer s H vs Q E hr h=>?_)
  · obtain ⟨_,_,_,_,rfl,_⟩:=h;rfl
  · have hu64:=hr.units
    have hu1:=Nat.lt_of_le_of_lt (Nat.add_le_add_left (show 1≤64 by decide) _) hu64
    obtain ⟨p,dx,v,u,rfl,hp,q⟩:=h
    refine ⟨_,(pss_cons (ps_expr (pe_call (ok_need_kinds T) (hr.mono (by decide)) rfl T.m_need_kinds T.f_need_kinds.kp T.b_need_kinds .nil pass_on (pa_cons (pv 2) pa_nil)))
      (pss_cons (ps_if (PW.pt (pw_or (pt_not (pt_val (pe_call (ok_is_word T) (hr.mono (by decide)) rfl T.m_is_word T.f_is_word.kp T.b_is_word .nil pass0 (pa_cons (pv 1) (pa_cons (pv 2) (pa_cons (pe_globI rfl T.c_MOST_IN_RING) pa_nil)))))) (pw_or1 (pt_cmpR (op_eqDK (K:=K) rfl hu64) (pv 1) (pe_strT (l:=[]) (by decide +kernel)) (nomark _))))) (pss_one (ps_raise cx_raises rfl (pe_xmake T.x_NoRing T.i_NoRing T.fn_NoRing (ok_NoRing_init T) (hr.mono (by decide)) T.b_NoRing pass0 rfl T.m_NoRing (pa_cons (pv 1) pa_nil)))) pss_nil)
      (pss_one (ps_expr (pe_cinit rfl T.m_Band T.cr_Band (ok_Band_init T) (hr.mono (by decide)) T.kp_Band_init T.b_Band_init .nil pass0 (pa_cons (pv 0) (pa_cons (pv 1) (pa_cons (pv 2) pa_nil)))))))),?_⟩
    walk_at "rd"
    have up:∀ (v:V) H1,Same H H1→XNr a E H v→(1≤1000∧MkI (spInit K a.c_NoRing 1 (fs1 (Str.ofString "thing"))) E0 a.c_NoRing [v] H1 fun v H1=>∃ e C d,v=.ref e∧H1 e=some (xo e C d)∧Xm K C∧E (.ref C) (some e) (upd H1 e (xr e C d))):=fun v H1 s1 z=>
      ⟨by decide,MkI.of rfl fun e H2 s2 n2 x2=>by
        obtain ⟨d,hd,hx⟩:=raise_any x2
        exact ⟨e,_,d,rfl,hd,T.x_NoRing,z e _ (s1.trans (same_upd3 s2 n2)) hx⟩⟩
    rcases q with ⟨l,m,rfl,rfl,ok,q⟩ | ⟨bk,x⟩ | ⟨m,rfl,kok,br,x⟩
    · have m4:=ok.m4
      have l20:=ok.l20
      refine ⟨_,rfl,.inl ⟨m,rfl,by omega,ok.k,fun H1 s1=>?_⟩⟩
      walk_at "rd?"
      refine ⟨_,m,20,rfl,.inl ⟨l,rfl,by omega,fun H2 s2=>?_⟩⟩
      walk_at "rd?"
      rw[isw_ok ok,Bool.not_true]
      refine iteF (.inl ⟨rfl,_,rfl,?_⟩)
      rw[if_neg Bool.false_ne_true,tx_ne_nil ok.l1]
      exact iteF ⟨p,dx,l,m,rfl,s1.trans s2 _ _ hp,fun H3 r k=>q H3 r fun b o e ne=>k b o (s1.trans s2 _ _ e) ne⟩
    · exact ⟨_,rfl,.inr ⟨bk,x⟩⟩
    · have m4:=kok.m4
      refine ⟨_,rfl,.inl ⟨m,rfl,by omega,kok.k,fun H1 s1=>?_⟩⟩
      walk_at "rd?"
      rcases br with ⟨l,rfl,hl,hb⟩ | o
      · refine ⟨_,m,20,rfl,.inl ⟨l,rfl,hl,fun H2 s2=>⟨_,rfl,?_⟩⟩⟩
        cases hw:isw l m 20 with
        | false=>exact iteT (iteT' (up _ H2 (s1.trans s2) x))
        | true=>
          rcases hb with hb | rfl
          · rw[hw] at hb;cases hb
          · refine iteF (.inl ⟨rfl,true,?_,iteT (up _ H2 (s1.trans s2) x)⟩)
            rw[if_neg Bool.false_ne_true,decide_eq_true rfl]
      · exact ⟨_,m,20,rfl,.inr ⟨o.same s1,_,rfl,iteT (iteT' (up _ H1 s1 x))⟩⟩
theorem sc_Band_place_of:FnScope ["self","word","found"] ["self","word"] (defScope s_Band_place_of):=⟨rfl,rfl,rfl,by decide +kernel,rfl,by decide +kernel,by decide +kernel⟩
theorem ok_Band_place_of (T:TL K mg base a tb):FnOk P w K mg base (CXr P w) 4 a.g_Band_place_of a.e_Band_place_of ["self","word"] (sp_Band_place_of K a):=by
  refine T.fm_Band_place_of.okX sc_Band_place_of (fun vs H Q E h=>?_) (fun cdv A outer s H vs Q E hr h=>?_)
  · obtain ⟨_,_,_,_,rfl,_⟩:=h;rfl
  · have hu64:=hr.units
    have hu1:=Nat.lt_of_le_of_lt (Nat.add_le_add_left (show 1≤64 by decide) _) hu64
    obtain ⟨p,l,m,v,rfl,hp,ok,q⟩:=h
    refine ⟨_,(pss_cons (ps_expr (pe_call (ok_need_word T) (hr.mono (by decide)) rfl T.m_need_word T.f_need_word.kp T.b_need_word .nil pass_on (pa_cons (pv 1) (pa_cons (pe_fldK (K:=K) rfl (pv 0) rfl) (pa_cons (pe_globI rfl T.c_MOST_ASKED) pa_nil)))))
      (pss_cons (ps_set (i:=2) sc_Band_place_of.nd rfl (Or.inl rfl) (pe_call (ok_places T) (hr.mono (by decide)) rfl T.m_places T.f_places.kp T.b_places .nil pass0 (pa_cons (pe_meth (pv 0) T.cl_Ring T.me_Ring_laid_out (ok_Ring_laid_out T) (hr.mono (by decide)) T.b_Ring_laid_out .nil pass0 (pa_cons (pe_callB (call_lenK (K:=K) rfl) rfl T.z_len bt_len (pa_cons (pv 1) pa_nil)) pa_nil)) (pa_cons (pv 1) pa_nil))))
      (pss_one (ps_ret (pe_ifExp (pt_truth (pv 2) (fun _=>rfl)) (pe_ix (ix_listK (K:=K) rfl) (pv 2) pe_int (fun _ _=>rfl)) pe_non))))),?_⟩
    obtain ⟨dx,hp'⟩:=hp
    have l1:=ok.l1
    have l20:=ok.l20
    walk_at "rd"
    refine ⟨p,_,dx,_,_,rfl,hp',T.cl_Ring,T.n_Ring_own_kinds,flds_kinds,?_⟩
    rcases q with ⟨w,rfl,hw,hk,q⟩ | ⟨bw,x⟩
    · refine ⟨_,m,60,rfl,.inl ⟨w,rfl,hw,hk,fun H1 s1=>?_⟩⟩
      have w60:=isw_le hk
      have ll:=laid_len (l:=l) (n:=w.length) l1
      refine ⟨p,dx,_,rfl,s1 _ _ hp',flds_no (by decide +kernel) (by decide +kernel),_,_,rfl,lenTx hw,p,l,m,w.length,rfl,⟨dx,s1 _ _ hp'⟩,ok,w60,laidOut l w.length,w,rfl,by omega,by omega,fun p1 H2 s2 l2=>?_⟩
      have q':=q H2 (s1.trans s2)
      rw[place_head l1] at q'
      cases hpl:placesOf (laidOut l w.length) w with
      | nil=>
        rw[hpl] at l2 q'
        exact ⟨false,.inl ⟨_,.mk l2,rfl⟩,iteF q'⟩
      | cons i r=>
        rw[hpl] at l2 q'
        exact ⟨true,.inl ⟨_,.mk l2,rfl⟩,iteT ⟨p1,_,_,_,rfl,rfl,.mk l2,atI0,q'⟩⟩
    · exact ⟨_,m,60,rfl,.inr ⟨bw,x⟩⟩
theorem sc_Band_stands:FnScope ["self","word"] ["self","word"] (defScope s_Band_stands):=⟨rfl,rfl,rfl,by decide +kernel,rfl,by decide +kernel,by decide +kernel⟩
theorem ok_Band_stands (T:TL K mg base a tb):FnOk P w K mg base (CXr P w) 5 a.g_Band_stands a.e_Band_stands ["self","word"] (sp_Band_stands K a):=by
  refine T.fm_Band_stands.okX sc_Band_stands (fun vs H Q E h=>?_) (fun cdv A outer s H vs Q E hr h=>?_)
  · obtain ⟨_,_,_,_,rfl,_⟩:=h;rfl
  · have hu64:=hr.units
    have hu1:=Nat.lt_of_le_of_lt (Nat.add_le_add_left (show 1≤64 by decide) _) hu64
    obtain ⟨p,l,m,v,rfl,hp,ok,q⟩:=h
    refine ⟨_,(pss_one (ps_ret (pe_cmpR op_notN (pe_meth (pv 0) T.cl_Ring T.me_Ring_place_of (ok_Band_place_of T) (hr.mono (by decide)) T.b_Band_place_of .nil pass_on (pa_cons (pv 1) pa_nil)) pe_non (nomark _)))),?_⟩
    obtain ⟨dx,hp'⟩:=id hp
    walk_at "rd"
    refine ⟨p,dx,_,rfl,hp',flds_no (by decide +kernel) (by decide +kernel),p,l,m,v,rfl,hp,ok,?_⟩
    rcases q with ⟨w,rfl,hw,hk,q⟩ | ⟨bw,x⟩
    · refine .inl ⟨w,rfl,hw,hk,fun H2 s2=>⟨trivial,?_⟩⟩
      rw[plV_some]
      exact q H2 s2
    · exact .inr ⟨bw,x⟩
theorem sc_Ring_turned:FnScope ["self","by","start"] ["self","by"] (defScope s_Ring_turned):=⟨rfl,rfl,rfl,by decide +kernel,rfl,by decide +kernel,by decide +kernel⟩
theorem ok_Ring_turned (T:TL K mg base a tb):FnOk P w K mg base CX0 6 a.g_Ring_turned a.e_Ring_turned ["self","by"] (sp_Ring_turned K a):=by
  refine T.fm_Ring_turned.ok sc_Ring_turned (fun vs H Q E h=>?_) (fun cdv A outer s H vs Q E hr h=>?_)
  · obtain ⟨_,_,_,_,rfl,_⟩:=h;rfl
  · have hu64:=hr.units
    have hu1:=Nat.lt_of_le_of_lt (Nat.add_le_add_left (show 1≤64 by decide) _) hu64
    obtain ⟨p,l,m,by_,rfl,hp,ok,q⟩:=h
    refine ⟨_,(pss_cons (ps_set (i:=2) sc_Ring_turned.nd rfl (Or.inl rfl) (pe_op op_mod (pv 1) (pe_callB (call_lenK (K:=K) rfl) rfl T.z_len bt_len (pa_cons (pe_fldK (K:=K) rfl (pv 0) rfl) pa_nil))))
      (pss_one (ps_ret (pe_make T.mk_Ring (ok_Ring_init T) (hr.mono (by decide)) rfl T.m_Ring T.b_Ring_init .nil pass_no (pa_cons (pe_op op_add_tx (pe_slice sl_tx (pe_fldK (K:=K) rfl (pv 0) rfl) (po_some (pv 2)) po_none) (pe_slice sl_tx (pe_fldK (K:=K) rfl (pv 0) rfl) po_none (po_some (pv 2)))) (pa_cons (pe_fldK (K:=K) rfl (pv 0) rfl) pa_nil)))))),?_⟩
    obtain ⟨dx,hp⟩:=hp
    have l1:=ok.l1
    have l20:=ok.l20
    have sz:l.length≤sizeLine:=by rw[sizeLine_eq];omega
    have pm:(0:Int) < (l.length:Nat):=by omega
    have m0:=Int.emod_nonneg by_ (show ((l.length:Nat):Int)≠0 by omega)
    have m1:=Int.emod_lt_of_pos by_ pm
    have c1:=cut_length l (some (by_ % (l.length:Nat))) none
    have c2:=cut_length l none (some (by_ % (l.length:Nat)))
    walk_at "rd"
    refine ⟨p,_,dx,_,_,rfl,hp,T.cl_Ring,T.n_Ring_own_text,flds_text,_,_,rfl,lenTx (by omega),pm,p,_,dx,_,_,rfl,hp,T.cl_Ring,T.n_Ring_own_text,flds_text,_,rfl,l,rfl,sz,p,_,dx,_,_,rfl,hp,T.cl_Ring,T.n_Ring_own_text,flds_text,_,rfl,l,rfl,sz,by rw[sizeLine_eq];omega,p,_,dx,_,_,rfl,hp,T.cl_Ring,T.n_Ring_own_kinds,flds_kinds,fun x dx2 nx ndx ne=>?_⟩
    rw[cutFrom _ m0,cutTo _ m0]
    refine ⟨x,dx2,_,_,rfl,upd_same,.inl ⟨turnL l by_,m,rfl,rfl,ok.turn,fun H2 r k=>⟨rfl,q x H2 (fun b o e=>k b o ?_ (ne_of_none e nx)) r⟩⟩⟩
    rw[upd_ne (ne_of_none e nx),upd_ne (ne_of_none e ndx)]
    exact e
theorem sc_law:FnScope ["_law_script","_law_kinds_here","_law_text","_law_ring_here","_law_due","_law_found","_law_cell_here","_law_word","_law_held","_law_other"] ["_law_script"] (defScope s_law):=⟨rfl,rfl,rfl,by decide +kernel,rfl,by decide +kernel,by decide +kernel⟩
theorem ok_law (T:TL K mg base a tb):FnOk P w K mg base CX0 7 a.f_law a.d_law ["_law_script"] (spLaw K tb):=by
  refine T.f_law.ok sc_law (fun vs H Q E h=>?_) (fun cdv A outer s H vs Q E hr h=>?_)
  · obtain ⟨_,_,rfl,_⟩:=h;rfl
  · have hu64:=hr.units
    have hu1:=Nat.lt_of_le_of_lt (Nat.add_le_add_left (show 1≤64 by decide) _) hu64
    obtain ⟨b,ns,rfl,hS,hl,tk,q⟩:=h
    refine ⟨_,(pss_cons (ps_set (i:=1) sc_law.nd rfl (Or.inl rfl) (pe_call (ok_lkinds T) (hr.mono (by decide)) rfl T.m_lkinds T.f_lkinds.kp T.b_lkinds .nil pass0 (pa_cons (pe_call (ok_lcell T) (hr.mono (by decide)) rfl T.m_lcell T.f_lcell.kp T.b_lcell .nil pass0 (pa_cons (pv 0) (pa_cons pe_int pa_nil))) pa_nil)))
      (pss_cons (ps_set (i:=2) sc_law.nd rfl (Or.inl rfl) (pe_call (ok_lring T) (hr.mono (by decide)) rfl T.m_lring T.f_lring.kp T.b_lring .nil pass0 (pa_cons (pv 0) (pa_cons pe_int (pa_cons (pv 1) pa_nil)))))
      (pss_cons (ps_set (i:=3) sc_law.nd rfl (Or.inr rfl) (pe_make T.mk_Ring (ok_Ring_init T) (hr.mono (by decide)) rfl T.m_Ring T.b_Ring_init .nil pass_no (pa_cons (pv 2) (pa_cons (pv 1) pa_nil))))
      (pss_hold (pss_cons (ps_set (i:=4) sc_law.nd rfl (Or.inl rfl) (pe_call (ok_missing T) (hr.mono (by decide)) rfl T.m_missing T.f_missing.kp T.b_missing .nil pass0 (pa_cons (pv 2) (pa_cons (pv 1) pa_nil))))
      (pss_hold (pss_cons (ps_set (i:=5) sc_law.nd rfl (Or.inl rfl) (pe_meth0 (pv 3) T.cl_Ring T.me_Ring_lacking (ok_Band_lacking T) (hr.mono (by decide)) T.b_Band_lacking .nil pass0))
      (pss_cons (ps_if (PW.pt (pw_or (pt_not (pt_val (pe_callB (call_isinstR (K:=K) rfl) rfl T.z_isinstance bt_isinstance (pa_cons (pv 5) (pa_cons (pe_bltn (v:=.ty "list") rfl T.z_list bt_list rfl) pa_nil))))) (pw_or1 (pt_cmpR (op_neDK (K:=K) rfl hu64) (pv 5) (pv 4) (nomark _))))) (pss_hold (pss_one (ps_ret pe_bl))) pss_nil)
      (pss_cons (ps_if (PW.pt (pw_or (pt_cmpR (op_neDK (K:=K) rfl hu64) (pe_comp (N:=["_law_word","_law_ring_here"]) (ix:=[none,some 3]) rfl (cmpOk_ok rfl) rfl (pi_listK (K:=K) rfl (pv 4)) (fun _ _ _ _=>(pg_name (i:=0) (show (["_law_word","_law_ring_here"]:List Str).Nodup from by decide +kernel) rfl (Or.inl rfl) (Or.inr rfl))) (fun _ _ _ _=>(pifs_one (pt_cmpR op_gt (pe_callB (call_lenK (K:=K) rfl) rfl T.z_len bt_len (pa_cons (pv 0) pa_nil)) (pe_meth0 (pv 1) T.cl_Ring T.me_Ring_reach (ok_Ring_reach T) (hr.mono (by decide)) T.b_Ring_reach .nil pass0) (nomark _)))) (fun _ _ _ _=>(pv 0))) (pe_lst pa_nil) (nomark _)) (pw_or1 (PW.pt (pw_and (pt_cmpR (op_eqDK (K:=K) rfl hu64) (pe_callB (call_lenK (K:=K) rfl) rfl T.z_len bt_len (pa_cons (pv 1) pa_nil)) pe_int (nomark _)) (pw_and1 (pt_cmpR (op_neDK (K:=K) rfl hu64) (pv 4) (pe_lst pa_nil) (nomark _)))))))) (pss_hold (pss_one (ps_ret pe_bl))) pss_nil)
      (pss_hold (pss_cons (ps_expr (pe_bm0 PySem.F.plainAttrs_list PySem.F.slot_list_clear PySem.F.type_list_clear mt_clear (pv 5)))
      (pss_cons (ps_for PassesOwn.never rfl (pi_listK (K:=K) rfl (pe_op op_cat (pe_slice (sl_listK (K:=K) rfl) (pv 0) (po_some pe_int) (po_some pe_int)) (pe_lst (pa_cons pe_int pa_nil)))) (pg_name (i:=6) sc_law.nd rfl (Or.inl rfl))
      (pss_cons (ps_set (i:=7) sc_law.nd rfl (Or.inr rfl) (pe_call (ok_asked T) (hr.mono (by decide)) rfl T.m_asked T.f_asked.kp T.b_asked .nil pass0 (pa_cons (pv 6) (pa_cons (pv 2) (pa_cons (pv 1) pa_nil)))))
      (pss_cons (ps_comp (i:=8) (N:=["_law_one","_law_word"]) (ix:=[none,some 7]) rfl sc_law.nd rfl rfl rfl (cmpOk_ok rfl) rfl (pi_listK (K:=K) rfl (pv 4)) (fun _ _ _ _=>(pg_name (i:=0) (show (["_law_one","_law_word"]:List Str).Nodup from by decide +kernel) rfl (Or.inl rfl) (Or.inr rfl))) (fun _ _ _ _=>(pifs_one (pt_cmpR op_in_tx (pv 0) (pv 1) rfl))) (fun _ _ _ _=>(pv 0)))
      (pss_one (ps_if (pt_cmpR (op_neDK (K:=K) rfl hu64) (pe_meth (pv 3) T.cl_Ring T.me_Ring_stands (ok_Band_stands T) (hr.mono (by decide)) T.b_Band_stands .nil pass_no (pa_cons (pv 7) pa_nil)) (pe_cmpR (op_eqDK (K:=K) rfl hu64) (pv 8) (pe_lst pa_nil) (nomark _)) (nomark _)) (pss_hold (pss_one (ps_ret pe_bl))) pss_nil)))))
      (pss_hold (pss_cons (ps_set (i:=9) sc_law.nd rfl (Or.inl rfl) (pe_meth (pv 3) T.cl_Ring T.me_Ring_turned (ok_Ring_turned T) (hr.mono (by decide)) T.b_Ring_turned .nil pass0 (pa_cons (pe_op op_sub (pe_op op_mod (pe_call (ok_lcell T) (hr.mono (by decide)) rfl T.m_lcell T.f_lcell.kp T.b_lcell .nil pass0 (pa_cons (pv 0) (pa_cons pe_int pa_nil))) (pe_op op_sub (pe_op op_mul pe_int (pe_op op_pow pe_int pe_int)) pe_int)) (pe_op op_sub (pe_op op_pow pe_int pe_int) pe_int)) pa_nil)))
      (pss_one (ps_ret (pe_and (pe_cmpR (op_eqDK (K:=K) rfl hu64) (pe_meth0 (pv 3) T.cl_Ring T.me_Ring_lacking (ok_Band_lacking T) (hr.mono (by decide)) T.b_Band_lacking .nil pass0) (pv 4) (nomark _)) (pe_and (pe_cmpR (op_eqDK (K:=K) rfl hu64) (pe_meth0 (pv 9) T.cl_Ring T.me_Ring_lacking (ok_Band_lacking T) (hr.mono (by decide)) T.b_Band_lacking .nil pass0) (pv 4) (nomark _)) (pe_one (pe_cmpR (op_eqDK (K:=K) rfl hu64) (pe_meth0 (pv 3) T.cl_Ring T.me_Ring_text (ok_Band_text T) (hr.mono (by decide)) T.b_Band_text .nil pass0) (pv 2) (nomark _))))))))))))))))))))),?_⟩
    have sz:∀ k:Nat,k≤9000→k≤sizeLine:=fun k h=>Nat.le_trans h (by rw[sizeLine_eq];decide)
    rw[←T.e_missing] at tk
    walk_at "rd"
    refine ⟨b,ns,0,rfl,hS,by decide,by decide,fun r0=>⟨_,rfl,fun m mk m1 m4=>⟨b,ns,1,m,rfl,hS,by decide,by decide,m1,m4,fun l H1 l1 l20 lm s1=>?_⟩⟩⟩
    have ok:RingOk l m:=⟨mk,m1,m4,l1,l20,lm⟩
    walk_at "rd?"
    intro pr dr npr ndr ner
    refine ⟨pr,dr,_,_,rfl,upd_same,.inl ⟨l,m,rfl,rfl,ok,fun H2 r2 k2=>⟨rfl,?_⟩⟩⟩
    have s2:Same H1 H2:=fun b o e=>k2 b o (by rw[upd_ne (ne_of_none e npr),upd_ne (ne_of_none e ndr)];exact e) (ne_of_none e npr)
    obtain ⟨d2,r2'⟩:=id r2
    refine hold_of ?_
    walk_at "rd"
    refine ⟨l,m,rfl,ok,tk.same (s1.trans s2),fun pd H3 sl3 tk3 n3 l3=>?_⟩
    refine hold_of ?_
    walk_at "rd"
    have r3:=sl3 _ _ r2' rfl
    refine ⟨pr,d2,_,rfl,r3,flds_no (by decide +kernel) (by decide +kernel),pr,l,m,rfl,⟨d2,r3⟩,ok,fun pf H4 s4 n4 l4=>?_⟩
    have l34:=s4 _ _ l3
    have ne:pd≠pf:=ne_of_none l3 n4
    walk_at "rd?"
    obtain ⟨D,eD⟩:∃ D,D=lackRT l m (rootLen l):=⟨_,rfl⟩
    have hD:=lackRT_len (l:=l) (m:=m) (i:=rootLen l) m4 l20
    have hr2:=(rootLen_per l1).2.1
    have hD2:D.length≤1600:=by rw[eD];omega
    have wD:∀ v∈D,v.length≤rootLen l:=fun v hv=>by rw[eD] at hv;exact ((mem_lackRT l1).mp hv).2.2
    rw[←eD] at l3 l34 l4
    have r4:=s4 _ _ r3
    refine ⟨_,_,_,_,true,rfl,rfl,.ty (.pl (.lst l4)),kit_ss,?_⟩
    rw[Bool.not_true]
    refine iteF (neL_tx (.mk l4) (.mk l34) ⟨false,rfl,iteF ?_⟩)
    have gD:∀ i,i < D.length→(D.map tx).getD i .non=tx (D.getD i []):=fun i hi=>getD_tx hi
    refine ⟨pd,rfl,⟨_,.mk l34⟩,CompRun.listL (xs:=D.map tx) (fun _=>false) (fun _=>.non) (by rw[List.length_map];omega) (.mk l34) ?_ ?_ ?_⟩
    · intro i H5 Q5 hi s5 q5
      rw[List.length_map] at hi
      rw[gD i hi]
      have wi:(D.getD i []).length≤rootLen l:=wD _ (by rw[List.getD_eq_getElem?_getD,List.getElem?_eq_getElem hi];exact List.getElem_mem hi)
      walk_at "rd"
      have r5:=s5 _ _ r4
      refine ⟨_,_,rfl,lenTx (by omega),pr,d2,_,rfl,r5,flds_no (by decide +kernel) (by decide +kernel),pr,l,m,rfl,⟨d2,r5⟩,ok,?_⟩
      rw[root_len l1]
      walk_at "rd?"
      rw[decide_eq_false (by omega)]
      exact q5 H5 (Same.refl _)
    · intro i H5 Q5 hi hb
      cases hb
    · intro pe H5 s5 n5 l5
      have e5:((List.range (D.map tx).length).filter fun _=>false).map (fun _=>V.non)=[]:=by simp
      rw[e5] at l5
      refine ⟨Nat.zero_le _,NewL.of fun pz H6 s6 n6 l6=>neL_self (.mk (s6 _ _ l5)) (.mk l6) rfl ⟨false,rfl,iteF ?_⟩⟩
      have s46:Same H4 H6:=s5.trans s6
      have d6:=s46 _ _ l34
      refine ⟨_,_,rfl,lenTx (by omega),.inl ⟨rfl,_,rfl,?_⟩⟩
      apply with_tail1 (C:=fun H7=>Same H6 H7)
      · intro tail
        by_cases hm1:m.length=1
        · have e1:(if false=true then !decide (V.int (m.length:Nat)=V.int 1) else decide (V.int (m.length:Nat)=V.int 1))=true:=by
            rw[if_neg Bool.false_ne_true,hm1];exact decide_eq_true rfl
          have eN:D=[]:=by
            obtain ⟨c,hc⟩:=List.length_eq_one_iff.mp hm1
            rw[eD];exact lackR_one l1 hc lm
          rw[e1]
          refine iteT ⟨Nat.zero_le _,NewL.of fun py H7 s7 n7 l7=>?_⟩
          obtain ⟨H8,e8⟩:∃ H8,H8=H7:=⟨_,rfl⟩
          rw[←e8] at l7 s7 ⊢
          refine neL_self (.mk (s7 _ _ d6)) (.mk (by rw[l7,eN];rfl)) (flat_tx _) ⟨false,rfl,iteF (tail H8 s7)⟩
        · have e1:(if false=true then !decide (V.int (m.length:Nat)=V.int 1) else decide (V.int (m.length:Nat)=V.int 1))=false:=by
            rw[if_neg Bool.false_ne_true]
            refine decide_eq_false fun e=>?_
            injection e with e
            omega
          rw[e1]
          exact iteF (iteF (tail H6 (Same.refl _)))
      · intro H7 s7
        refine hold_of ?_
        walk_at "rd"
        have s47:=s46.trans s7
        have f7:=s47 _ _ l4
        have d7:=s47 _ _ l34
        have r7:=s47 _ _ r4
        refine ⟨.inl ⟨rfl,_,.mk f7⟩,pf,_,rfl,rfl,f7,?_⟩
        have k8:Same H3 (upd H7 pf (.lst [])):=same_upd3 (s4.trans s47) n4
        have d8:=k8 _ _ l3
        have r8:=k8 _ _ r3
        have S8:SqL K (upd H7 pf (.lst [])) b (ns.map V.int):=k8.seq (SqL.lL ((s1.trans s2).seq hS) sl3)
        generalize upd H7 pf (.lst [])=H8 at d8 r8 S8
        refine ⟨_,rfl,_,rfl,b,_,rfl,S8,fun pq nq=>?_⟩
        have s9:Same H8 (upd H8 pq (.lst (cutV (ns.map V.int) (some 4) (some 24)))):=same_upd nq
        have lq:upd H8 pq (.lst (cutV (ns.map V.int) (some 4) (some 24))) pq=some (.lst (cutV (ns.map V.int) (some 4) (some 24))):=upd_same
        have lc:=cutV_len (xs:=ns.map V.int) (lo:=some 4) (hi:=some 24)
        rw[List.length_map] at lc
        have ac:∀ v∈cutV (ns.map V.int) (some 4) (some 24),∃ c,v=V.int c:=fun v hv=>cutV_ints hv
        generalize cutV (ns.map V.int) (some 4) (some 24)=cs at s9 lq lc ac
        generalize upd H8 pq (.lst cs)=H9 at s9 lq
        refine ⟨sz _ (by decide),NewL.of fun pz2 H10 s10 n10 l10=>?_⟩
        rw[q_cat]
        refine ⟨cs,[.int 1],s10 _ _ lq,l10,by rw[List.length_singleton];exact sz _ (by omega),NewL.of fun pw H11 s11 n11 l11=>?_⟩
        have s811:Same H8 H11:=s9.trans (s10.trans s11)
        have d11:=s811 _ _ d8
        have r11:=s811 _ _ r8
        refine ⟨pw,rfl,⟨_,.mk l11⟩,ForRun.list (xs:=cs++[.int 1]) (fun i σ H'=>∃ v6 v7 v8,σ=[some (.ref b),some (tx m),some (tx l),some (.ref pr),some (.ref pd),some (.ref pf),v6,v7,v8,none]∧Same H11 H') ⟨_,_,_,rfl,Same.refl _⟩ (fun i σ H' _ ⟨_,_,_,_,s'⟩=>s'.seq (.mk l11)) ?_ ?_⟩
        · rintro i x σ H12 hx ⟨v6,v7,v8,rfl,s12⟩
          have hx':∃ c,x=V.int c:=by
            rcases List.mem_append.mp (List.mem_of_getElem? hx) with h | h
            · exact ac x h
            · exact ⟨1,List.mem_singleton.mp h⟩
          obtain ⟨c,rfl⟩:=hx'
          walk_at "rd"
          refine ⟨_,l,m,rfl,ok,fun w H13 w60 wm s13=>?_⟩
          have s1113:=s12.trans s13
          have d13:=s1113 _ _ d11
          have r13:=s1113 _ _ r11
          refine ⟨pd,rfl,⟨_,.mk d13⟩,CompRun.listL (xs:=D.map tx) (fun i=>infB (D.getD i []) w) (fun i=>tx (D.getD i [])) (by rw[List.length_map];omega) (.mk d13) ?_ ?_ ?_⟩
          · intro i H14 Q14 hi s14 q14
            rw[List.length_map] at hi
            rw[gD i hi]
            walk_at "rd"
            exact ⟨_,_,rfl,rfl,q14 H14 (Same.refl _)⟩
          · intro i H14 Q14 hi _ s14 q14
            rw[List.length_map] at hi
            rw[gD i hi]
            walk_at "rd"
            exact q14 H14 (Same.refl _)
          · intro ph H14 s14 n14 l14
            have eh:((List.range (D.map tx).length).filter fun i=>infB (D.getD i []) w).map (fun i=>tx (D.getD i []))=(D.filter fun v=>infB v w).map tx:=by
              rw[List.length_map,←filt_range (fun v=>infB v w) [] D,List.map_map]
              rfl
            rw[eh] at l14
            have r14:=s14 _ _ r13
            refine ⟨pr,d2,_,rfl,r14,flds_no (by decide +kernel) (by decide +kernel),pr,l,m,_,rfl,⟨d2,r14⟩,ok,.inl ⟨w,rfl,by omega,isw_yes (by omega) wm,fun H15 s15=>?_⟩⟩
            walk_at "rd?"
            refine ⟨Nat.zero_le _,NewL.of fun py H16 s16 n16 l16=>eqL_tx (ys:=[]) (.mk ((s15.trans s16) _ _ l14)) (.mk l16) ?_⟩
            have eb:decide ((D.filter fun v=>infB v w)=[])=(ringPlace l w).isSome:=by
              rw[Bool.eq_iff_iff,decide_eq_true_iff,place_some l1,lackR_none l1 wm,←eD,List.filter_eq_nil_iff]
              constructor
              · intro h v hv hi
                exact h v hv (infB_iff.mpr hi)
              · intro h v hv hi
                exact h v hv (infB_iff.mp hi)
            rw[eb]
            exact neB_same ⟨false,rfl,iteF ⟨_,_,_,rfl,s1113.trans (s14.trans (s15.trans s16))⟩⟩
        · rintro σ H12 ⟨v6,v7,v8,rfl,s12⟩
          walk_at "rd?"
          refine hold_of ?_
          walk_at "rd"
          have r12:=s12 _ _ r11
          refine ⟨pr,d2,_,rfl,r12,flds_no (by decide +kernel) (by decide +kernel),b,ns,4,rfl,s12.seq (s811.seq S8),by decide,by decide,fun r4=>?_⟩
          walk_at "rd?"
          refine ⟨⟨by decide,by decide,by decide⟩,.inl ⟨by decide,by decide⟩,by decide,⟨by decide,by decide,by decide⟩,pr,l,m,_,rfl,⟨d2,r12⟩,ok,fun po H13 s13 ro=>?_⟩
          have r13:=s13 _ _ r12
          refine ⟨pr,d2,_,rfl,r13,flds_no (by decide +kernel) (by decide +kernel),pr,l,m,rfl,⟨d2,r13⟩,ok,fun p14 H14 s14 n14 l14=>?_⟩
          rw[←eD] at l14
          have d12:=s12 _ _ d11
          obtain ⟨d3,ro'⟩:=id ro
          refine eqL_self (.mk l14) (.mk ((s13.trans s14) _ _ d12)) (flat_tx _) ⟨true,rfl,iteT ⟨po,d3,_,rfl,s14 _ _ ro',flds_no (by decide +kernel) (by decide +kernel),po,_,m,rfl,⟨d3,s14 _ _ ro'⟩,ok.turn,fun p15 H15 s15 n15 l15=>?_⟩⟩
          rw[lackRT_turn l1,←eD] at l15
          have r15:=(s14.trans s15) _ _ r13
          exact eqL_self (.mk l15) (.mk ((s13.trans (s14.trans s15)) _ _ d12)) (flat_tx _) ⟨true,rfl,iteT ⟨pr,d2,_,rfl,r15,flds_no (by decide +kernel) (by decide +kernel),pr,l,m,rfl,⟨d2,r15⟩,eq_tx (q _)⟩⟩
end
end Pk73
set_option Elab.async false
set_option linter.all false
set_option maxRecDepth 100000
def PySem.W.Fast.tw10701651710412606825:Unit:=()
def PySem.W.Fast.tw11913781230110599516:Unit:=()
def PySem.W.Fast.tw13314799488443530321:Unit:=()
def PySem.W.Fast.tw14685053770342631847:Unit:=()
def PySem.W.Fast.tw15942156301950049963:Unit:=()
def PySem.W.Fast.tw2097153257316573220:Unit:=()
def PySem.W.Fast.tw3091803570940360230:Unit:=()
def PySem.W.Fast.tw5208431382167114073:Unit:=()
def PySem.W.Fast.tw6522356763868434582:Unit:=()
def PySem.W.Fast.tw6695733907100727289:Unit:=()
def PySem.W.Fast.tw6922219282890706446:Unit:=()
def PySem.W.Fast.tw7003182379924920440:Unit:=()
def PySem.W.Fast.tw9806242931628764027:Unit:=()
open PySem PySem.W PyProof.Rows
set_option maxRecDepth 100000 in
set_option maxHeartbeats 0 in
theorem PySem.Challenge.cw_lackword_k73_missing_words_of_rings_holds : PySem.Challenge.rw_lackword_k73_missing_words_of_rings.Holds := by
  w_on;o_law;k_head;(case hw=>w_witness2)
  k_fill
  refine L2.walk_ofT (l:=PySem.Challenge.rw_lackword_k73_missing_words_of_rings) (n:=63) (k:=7) (x:="_law_script") (CX:=L2.CX0) (sp:=Pk73.spLaw) ["_law_missing"] rfl (by decide) rfl ⟨rfl,by decide,by decide⟩ (fun w h Y=>PySem.W.km_in_of Y) (fun _=>by kernel_rfl) (by kernel_rfl) ?F ?S ?C
  case F=>
    intro w mg fa h tb KX G hmg hT
    have T:∃ t,Pk73.Txt (L2.KOf KX) mg t∧t.t_missing=(tb "_law_missing").2∧t.k_missing=(tb "_law_missing").1:=by
      dsimp only[L2.KOf]
      refine' Pk73.txt_mk (t_missing:=(tb "_law_missing").2) (k_missing:=(tb "_law_missing").1) KX G ?oc_hn ?oc_tk ?a_LackError ?q_LackError ?r_LackError ?ty_LackError ?ga_LackError ?gr_LackError ?sa_LackError ?hd_LackError ?ob_LackError ?kp_LackError ?ha_LackError ?i_LackError ?rs_LackError ?rr_LackError ?rf_LackError ?a_NoWord ?q_NoWord ?r_NoWord ?ty_NoWord ?ga_NoWord ?gr_NoWord ?sa_NoWord ?hd_NoWord ?ob_NoWord ?kp_NoWord ?ha_NoWord ?i_NoWord ?fn_NoWord ?l_INoWord ?cc_INoWord ?kk_INoWord ?n_NoWord_word ?a_NoRing ?q_NoRing ?r_NoRing ?ty_NoRing ?ga_NoRing ?gr_NoRing ?sa_NoRing ?hd_NoRing ?ob_NoRing ?kp_NoRing ?ha_NoRing ?i_NoRing ?fn_NoRing ?l_INoRing ?cc_INoRing ?kk_INoRing ?n_NoRing_thing ?a_NoKinds ?q_NoKinds ?r_NoKinds ?ty_NoKinds ?ga_NoKinds ?gr_NoKinds ?sa_NoKinds ?hd_NoKinds ?ob_NoKinds ?kp_NoKinds ?ha_NoKinds ?i_NoKinds ?ow_hn ?ow_tk ?a_Band ?pg_Band ?hd_Band ?po_Band ?sa_Band ?rs_Band ?rr_Band ?rf_Band ?a_Ring ?pg_Ring ?hd_Ring ?po_Ring ?sa_Ring ?rs_Ring ?rr_Ring ?rf_Ring ?mk_Ring ?in_Ring ?kc_Ring ?ha_Ring ?mo_Ring ?me_Ring_text ?me_Ring_words ?me_Ring_laid_out ?me_Ring_stands ?me_Ring_place_of ?me_Ring_reach ?me_Ring_root ?me_Ring_lacking ?me_Ring_turned ?n_Ring_own_text ?n_Ring_own_kinds ?l_MBand_init ?cc_MBand_init ?kk_MBand_init ?fn_MBand_init ?l_MBand_text ?cc_MBand_text ?kk_MBand_text ?fn_MBand_text ?l_MBand_words ?cc_MBand_words ?kk_MBand_words ?fn_MBand_words ?l_MBand_stands ?cc_MBand_stands ?kk_MBand_stands ?fn_MBand_stands ?l_MBand_place_of ?cc_MBand_place_of ?kk_MBand_place_of ?fn_MBand_place_of ?l_MBand_lacking ?cc_MBand_lacking ?kk_MBand_lacking ?fn_MBand_lacking ?l_MRing_init ?cc_MRing_init ?kk_MRing_init ?fn_MRing_init ?l_MRing_laid_out ?cc_MRing_laid_out ?kk_MRing_laid_out ?fn_MRing_laid_out ?l_MRing_root ?cc_MRing_root ?kk_MRing_root ?fn_MRing_root ?l_MRing_reach ?cc_MRing_reach ?kk_MRing_reach ?fn_MRing_reach ?l_MRing_turned ?cc_MRing_turned ?kk_MRing_turned ?fn_MRing_turned ?nd ?a_has_only ?l_has_only ?cc_has_only ?kk_has_only ?a_is_kinds ?l_is_kinds ?cc_is_kinds ?kk_is_kinds ?a_is_word ?l_is_word ?cc_is_word ?kk_is_word ?a_need_kinds ?l_need_kinds ?cc_need_kinds ?kk_need_kinds ?a_need_word ?l_need_word ?cc_need_word ?kk_need_word ?a_places ?l_places ?cc_places ?kk_places ?a_pieces ?l_pieces ?cc_pieces ?kk_pieces ?a_among ?l_among ?cc_among ?kk_among ?a_lcell ?l_lcell ?cc_lcell ?kk_lcell ?a_mixed ?l_mixed ?cc_mixed ?kk_mixed ?a_lkinds ?l_lkinds ?cc_lkinds ?kk_lkinds ?a_letters ?l_letters ?cc_letters ?kk_letters ?a_lring ?l_lring ?cc_lring ?kk_lring ?a_lwords ?l_lwords ?cc_lwords ?kk_lwords ?a_missing ?l_missing ?cc_missing ?kk_missing ?a_asked ?l_asked ?cc_asked ?kk_asked ?a_law ?l_law ?cc_law ?kk_law ?z_len ?z_range ?z_isinstance ?z_all ?z_list ?z_set ?z_sorted ?z_str ?z_int ?z_ValueError ?c_SMALL_LETTERS ?c_MOST_KINDS ?c_MOST_ASKED ?c_MOST_IN_RING
      (case oc_hn=>k_is)
      (case oc_tk=>k_is)
      (case a_LackError=>k_is)
      (case q_LackError=>k_is)
      (case r_LackError=>rfl)
      (case ty_LackError=>k_is)
      (case ga_LackError=>k_is)
      (case gr_LackError=>k_is)
      (case sa_LackError=>k_is)
      (case hd_LackError=>k_is)
      (case ob_LackError=>k_is)
      (case kp_LackError=>k_is)
      (case ha_LackError=>k_is)
      (case i_LackError=>k_is)
      (case rs_LackError=>k_is)
      (case rr_LackError=>k_is)
      (case rf_LackError=>k_is)
      (case a_NoWord=>k_is)
      (case q_NoWord=>k_is)
      (case r_NoWord=>rfl)
      (case ty_NoWord=>k_is)
      (case ga_NoWord=>k_is)
      (case gr_NoWord=>k_is)
      (case sa_NoWord=>k_is)
      (case hd_NoWord=>k_is)
      (case ob_NoWord=>k_is)
      (case kp_NoWord=>k_is)
      (case ha_NoWord=>k_is)
      (case i_NoWord=>k_is)
      (case fn_NoWord=>k_is)
      (case l_INoWord=>k_is)
      (case cc_INoWord=>k_is)
      (case kk_INoWord=>k_is)
      (case n_NoWord_word=>k_is)
      (case a_NoRing=>k_is)
      (case q_NoRing=>k_is)
      (case r_NoRing=>rfl)
      (case ty_NoRing=>k_is)
      (case ga_NoRing=>k_is)
      (case gr_NoRing=>k_is)
      (case sa_NoRing=>k_is)
      (case hd_NoRing=>k_is)
      (case ob_NoRing=>k_is)
      (case kp_NoRing=>k_is)
      (case ha_NoRing=>k_is)
      (case i_NoRing=>k_is)
      (case fn_NoRing=>k_is)
      (case l_INoRing=>k_is)
      (case cc_INoRing=>k_is)
      (case kk_INoRing=>k_is)
      (case n_NoRing_thing=>k_is)
      (case a_NoKinds=>k_is)
      (case q_NoKinds=>k_is)
      (case r_NoKinds=>rfl)
      (case ty_NoKinds=>k_is)
      (case ga_NoKinds=>k_is)
      (case gr_NoKinds=>k_is)
      (case sa_NoKinds=>k_is)
      (case hd_NoKinds=>k_is)
      (case ob_NoKinds=>k_is)
      (case kp_NoKinds=>k_is)
      (case ha_NoKinds=>k_is)
      (case i_NoKinds=>k_is)
      (case ow_hn=>k_is)
      (case ow_tk=>k_is)
      (case a_Band=>k_is)
      (case pg_Band=>k_is)
      (case hd_Band=>k_is)
      (case po_Band=>k_is)
      (case sa_Band=>k_is)
      (case rs_Band=>k_is)
      (case rr_Band=>k_is)
      (case rf_Band=>k_is)
      (case a_Ring=>k_is)
      (case pg_Ring=>k_is)
      (case hd_Ring=>k_is)
      (case po_Ring=>k_is)
      (case sa_Ring=>k_is)
      (case rs_Ring=>k_is)
      (case rr_Ring=>k_is)
      (case rf_Ring=>k_is)
      (case mk_Ring=>k_is)
      (case in_Ring=>k_is)
      (case kc_Ring=>k_is)
      (case ha_Ring=>k_is)
      (case mo_Ring=>k_is)
      (case me_Ring_text=>k_is)
      (case me_Ring_words=>k_is)
      (case me_Ring_laid_out=>k_is)
      (case me_Ring_stands=>k_is)
      (case me_Ring_place_of=>k_is)
      (case me_Ring_reach=>k_is)
      (case me_Ring_root=>k_is)
      (case me_Ring_lacking=>k_is)
      (case me_Ring_turned=>k_is)
      (case n_Ring_own_text=>k_is)
      (case n_Ring_own_kinds=>k_is)
      (case l_MBand_init=>k_is)
      (case cc_MBand_init=>k_is)
      (case kk_MBand_init=>k_is)
      (case fn_MBand_init=>k_is)
      (case l_MBand_text=>k_is)
      (case cc_MBand_text=>k_is)
      (case kk_MBand_text=>k_is)
      (case fn_MBand_text=>k_is)
      (case l_MBand_words=>k_is)
      (case cc_MBand_words=>k_is)
      (case kk_MBand_words=>k_is)
      (case fn_MBand_words=>k_is)
      (case l_MBand_stands=>k_is)
      (case cc_MBand_stands=>k_is)
      (case kk_MBand_stands=>k_is)
      (case fn_MBand_stands=>k_is)
      (case l_MBand_place_of=>k_is)
      (case cc_MBand_place_of=>k_is)
      (case kk_MBand_place_of=>k_is)
      (case fn_MBand_place_of=>k_is)
      (case l_MBand_lacking=>k_is)
      (case cc_MBand_lacking=>k_is)
      (case kk_MBand_lacking=>k_is)
      (case fn_MBand_lacking=>k_is)
      (case l_MRing_init=>k_is)
      (case cc_MRing_init=>k_is)
      (case kk_MRing_init=>k_is)
      (case fn_MRing_init=>k_is)
      (case l_MRing_laid_out=>k_is)
      (case cc_MRing_laid_out=>k_is)
      (case kk_MRing_laid_out=>k_is)
      (case fn_MRing_laid_out=>k_is)
      (case l_MRing_root=>k_is)
      (case cc_MRing_root=>k_is)
      (case kk_MRing_root=>k_is)
      (case fn_MRing_root=>k_is)
      (case l_MRing_reach=>k_is)
      (case cc_MRing_reach=>k_is)
      (case kk_MRing_reach=>k_is)
      (case fn_MRing_reach=>k_is)
      (case l_MRing_turned=>k_is)
      (case cc_MRing_turned=>k_is)
      (case kk_MRing_turned=>k_is)
      (case fn_MRing_turned=>k_is)
      (case nd=>decide)
      (case a_has_only=>k_is)
      (case l_has_only=>k_is)
      (case cc_has_only=>k_is)
      (case kk_has_only=>k_is)
      (case a_is_kinds=>k_is)
      (case l_is_kinds=>k_is)
      (case cc_is_kinds=>k_is)
      (case kk_is_kinds=>k_is)
      (case a_is_word=>k_is)
      (case l_is_word=>k_is)
      (case cc_is_word=>k_is)
      (case kk_is_word=>k_is)
      (case a_need_kinds=>k_is)
      (case l_need_kinds=>k_is)
      (case cc_need_kinds=>k_is)
      (case kk_need_kinds=>k_is)
      (case a_need_word=>k_is)
      (case l_need_word=>k_is)
      (case cc_need_word=>k_is)
      (case kk_need_word=>k_is)
      (case a_places=>k_is)
      (case l_places=>k_is)
      (case cc_places=>k_is)
      (case kk_places=>k_is)
      (case a_pieces=>k_is)
      (case l_pieces=>k_is)
      (case cc_pieces=>k_is)
      (case kk_pieces=>k_is)
      (case a_among=>k_is)
      (case l_among=>k_is)
      (case cc_among=>k_is)
      (case kk_among=>k_is)
      (case a_lcell=>k_is)
      (case l_lcell=>k_is)
      (case cc_lcell=>k_is)
      (case kk_lcell=>k_is)
      (case a_mixed=>k_is)
      (case l_mixed=>k_is)
      (case cc_mixed=>k_is)
      (case kk_mixed=>k_is)
      (case a_lkinds=>k_is)
      (case l_lkinds=>k_is)
      (case cc_lkinds=>k_is)
      (case kk_lkinds=>k_is)
      (case a_letters=>k_is)
      (case l_letters=>k_is)
      (case cc_letters=>k_is)
      (case kk_letters=>k_is)
      (case a_lring=>k_is)
      (case l_lring=>k_is)
      (case cc_lring=>k_is)
      (case kk_lring=>k_is)
      (case a_lwords=>k_is)
      (case l_lwords=>k_is)
      (case cc_lwords=>k_is)
      (case kk_lwords=>k_is)
      (case a_missing=>k_is)
      (case l_missing=>k_is)
      (case cc_missing=>k_is)
      (case kk_missing=>k_is)
      (case a_asked=>k_is)
      (case l_asked=>k_is)
      (case cc_asked=>k_is)
      (case kk_asked=>k_is)
      (case a_law=>k_is)
      (case l_law=>k_is)
      (case cc_law=>k_is)
      (case kk_law=>k_is)
      (case z_len=>k_is)
      (case z_range=>k_is)
      (case z_isinstance=>k_is)
      (case z_all=>k_is)
      (case z_list=>k_is)
      (case z_set=>k_is)
      (case z_sorted=>k_is)
      (case z_str=>k_is)
      (case z_int=>k_is)
      (case z_ValueError=>k_is)
      (case c_SMALL_LETTERS=>k_is)
      (case c_MOST_KINDS=>k_is)
      (case c_MOST_ASKED=>k_is)
      (case c_MOST_IN_RING=>k_is)
    obtain ⟨t,T,et_missing,ek_missing⟩:=T
    have e0:=hmg.symm.trans T.m_law
    cases e0
    have cd_missing:t.d_missing.code=.ref t.k_missing:=by
      obtain ⟨o,e1,e2⟩:=T.f_missing.at KX
      rw[ek_missing]
      exact (hT "_law_missing" (by simp)).codeEq T.m_missing e1 e2
    refine' ⟨_,?b,fun base kb nb hL=>Pk73.ok_law (tb:=tb) { T with L_missing:=by rw[et_missing,ek_missing];exact hL "_law_missing" (by simp),cd_missing:=cd_missing,e_missing:=et_missing }⟩
    exact T.bl
  case S=>exact fun K tb H a ns hl hP hS=>⟨a,ns,rfl,hS,hl,L2.tbl_new (hP "_law_missing" (by simp)),fun _=>rfl⟩
  case C=>exact fun _ _ _ _ z=>z
#print axioms PySem.Challenge.cw_lackword_k73_missing_words_of_rings_holds
