import PyProof.Rows.All
import Wide.All
import OpenK.AllK
import Wide.FinOn
import Lean
import PyProof.EqAt
import PyProof.EqKinds
import PyProof.TupleCall
import PyProof.SetRoads
import PyProof.Rows.SetFrom
import PyProof.StrWalks
import PyProof.FactsAll.set
import PyProof.FactsAll.subtypes_3
import PyProof.CollectWalk
import PyProof.CollectStr
import PyProof.StationsW
import PyProof.RulesAs
import KE.KTryMore
import PyProof.NsDelKeeps
import PyProof.ListStr
import PyProof.TupleOfStr
import PyProof.ConsumeS
import KE.KEqDict
import PyProof.DictWalks
import PyProof.DictUpdate
import KE.KLam
import OpenK.KCell
import PyProof.DictDisplay
import PyProof.ListRange
import PyProof.Rows.StrNews2
import KE.KRevIter
import KE.KDictList
import PySem.Challenge.RW_lackword_k42_places_counted
set_option Elab.async false
set_option linter.all false
def YAA:=@PySem.wpAny_bind
def YAB:=@PySem.Heap.get?_push_of_some
def YAC:=@Bool.false_ne_true
def YAD:=@PySem.wpAny_pure
def YAE:=@List.length_map
def YAF:=@List.length_append
def YAG:=@PySem.Heap.get?_push_size
def YAH:=@PySem.Heap.lt_size
def YAI:=@List.size_toArray
def YAJ:=@if_neg
def YAK:=@List.mem_cons
def YAL:=@PyProof.Rows.wpS_bind
def YAM:=@List.getElem?_eq_getElem
def YAN:=@Array.length_toList
def YAO:=@if_pos
def YAP:=@Nat.le_trans
def YAQ:=@Nat.le_refl
def YAR:=@Bool.and_eq_true
def YAS:=@List.mem_singleton
def YAT:=@PySem.W.mg_of
def YAU:=@List.getD_eq_getElem?_getD
def YAV:=@PyProof.Rows.wpS_pure
def YAW:=@List.mem_cons_of_mem
def YAX:=@Nat.ne_of_lt
def YAY:=@List.mem_of_mem_take
def YAZ:=@List.mem_of_mem_drop
def YAa:=@List.mem_cons_self
def YAb:=@List.length_take
def YAc:=@List.getElem?_eq_some_iff
def YAd:=@PySem.Heap.SameBut.update
def YAe:=@List.mem_append
def YAf:=@List.map_cons
def YAg:=@List.getElem?_append_right
def YAh:=@List.append_assoc
def YAi:=@List.getElem?_append_left
def YAj:=@Nat.lt_of_lt_of_le
def YAk:=@List.take_append_drop
def YAl:=@Array.getElem?_toList
def YAm:=@List.length_drop
def YAn:=@List.length_cons
def YAo:=@List.getElem?_map
def YAp:=@List.length_singleton
def YAq:=@List.take_of_length_le
def YAr:=@List.mem_of_getElem?
def YAs:=@PySem.Heap.size_push
def YAt:=@List.length_filter_le
def YAu:=@PySem.W.mg_none_of
def YAv:=@Nat.lt_irrefl
def YAw:=@Array.toList_extract
def YAx:=@Ne.symm
def YAy:=@List.mem_append_right
def YAz:=@Nat.zero_le
def YBA:=@List.mem_range
def YBB:=@Array.toList_append
def YBC:=@PySem.Heap.get?_update_other
def YBD:=@List.lookup_cons
def YBE:=@List.all_eq_true
def YBF:=@PySem.wpAny_mono
def YBG:=@PySem.W.kia_one
def YBH:=@List.pairwise_append
def YBI:=@List.length_dropLast
def YBJ:=@PySem.wpAny_Call_Name_kw
def YBK:=@List.pairwise_cons
def YBL:=@PyProof.Rows.wpS_forRange
def YBM:=@PySem.mem_of_lookup
def YBN:=@PySem.PassesOwn.never
def YBO:=@List.getElem?_eq_none
def YBP:=@PySem.Heap.get?_update_self
def YBQ:=@Bool.eq_iff_iff
def YBR:=@PySem.wpAny_setField
def YBS:=@List.mem_reverse
def YBT:=@PySem.wpAny_loadPart_at
def YBU:=@PySem.wpAny_holding
def YBV:=@List.length_range
def YBW:=@Array.toList_push
def YBX:=@List.mem_map
def YBY:=@PySem.wpAny_newObj_type
def YBZ:=@List.map_map
def YBa:=@Int.toNat_natCast
def YBb:=@List.drop_zero
def YBc:=@Bool.false_and
def YBd:=@PySem.wpAny_field
def YBe:=@PySem.F.plainAttrs_list
def YBf:=@PySem.W.looks_findIn
def YBg:=@PySem.wpAny_call_entry
def YBh:=@List.getElem_mem
def YBi:=@List.pairwise_map
def YBj:=@List.length_pos_iff
def YBk:=@List.flatten_cons
def YBl:=@PySem.W.callWith_K
def YBm:=@Int.emod_lt_of_pos
def YBn:=@List.not_mem_nil
def YBo:=@PySem.wpAny_rule
def YBp:=@Nat.min_eq_left
def YBq:=@List.range_succ
def YBr:=@List.nodup_cons
def YBs:=@List.forIn_cons
def YBt:=@List.append_nil
def YBu:=@Int.emod_nonneg
def YBv:=@PyProof.Rows.wpS_mono
def YBw:=@Array.getElem?_eq_some_iff
def YBx:=@PySem.wpAny_call
def YBy:=@Option.bind_some
def YBz:=@PySem.wpAny_attempt
def YCA:=@PySem.Obj.data_mapFields
def YCB:=@List.contains_cons
def YCC:=@Bool.true_and
def YCD:=@Bool.false_eq_true
def YCE:=@PySem.wpAny_seqItems
def YCF:=@List.drop_eq_getElem_cons
def YCG:=@PyProof.Rows.wpS_modify
def YCH:=@PySem.wpAny_truthy_bool
def YCI:=@PySem.F.type_list_append
def YCJ:=@PySem.F.slot_list_append
def YCK:=@Nat.lt_succ_of_lt
def YCL:=@List.mem_filter
def YCM:=@List.map_append
def YCN:=@Bool.eq_false_iff
def YCO:=@Nat.le_of_eq
def YCP:=@List.mem_map_of_mem
def YCQ:=@PySem.W.any_some
def YCR:=@List.getLast?_eq_some_getLast
def YCS:=@List.drop_append_of_le_length
def YCT:=@List.take_take
def YCU:=@Bool.and_false
def YCV:=@List.drop_eq_nil_of_le
def YCW:=@Nat.lt_of_le_of_lt
def YCX:=@List.getElem?_take
def YCY:=@List.getElem?_drop
def YCZ:=@List.filter_append
def YCa:=@PySem.W.methodCall_KW
def YCb:=@PyProof.Rows.callWith_type1
def YCc:=@Nat.le_succ
def YCd:=@List.foldl_cons
def YCe:=@PySem.wpAny_setState_of
def YCf:=@PySem.W.kitx_list
def YCg:=@List.take_sublist
def YCh:=@List.ext_getElem?
def YCi:=@PySem.F.slot_tuple_iterator_next
def YCj:=@Array.perm_iff_toList_perm
def YCk:=@List.dropLast_concat
def YCl:=@Array.toArray_toList
def YCm:=@PySem.Around.under_plainId
def YCn:=@List.drop_drop
def YCo:=@PySem.wpAny_askSetting
def YCp:=@List.take_length
def YCq:=@List.ext_getElem
def YCr:=@List.cons_append
def YCs:=@PySem.wpAny_isSubtype_exc
def YCt:=@List.getElem_of_mem
def YCu:=@Nat.ne_of_gt
def YCv:=@Nat.le_of_lt
def YCw:=@PySem.wpAny_setField_rec
def YCx:=@List.length_eq_zero_iff
def YCy:=@List.find?_cons
def YCz:=@PySem.F.plainAttrs_str
def YDA:=@PySem.wpAny_pyIter_list
def YDB:=@List.nodup_append
def YDC:=@PyProof.Rows.callWith_builtin1
def YDD:=@PySem.Obj.isFreed_of_fields
def YDE:=@List.dropLast_eq_take
def YDF:=@Nat.succ_le_succ
def YDG:=@List.eq_nil_of_length_eq_zero
def YDH:=@PySem.F.excBase_ValueError
def YDI:=@List.dropLast_concat_getLast
def YDJ:=@Nat.not_lt
def YDK:=@PyProof.Rows.wpS_get
def YDL:=@PySem.wpAny_passesOwn
def YDM:=@PySem.wpAny_execs_nil
def YDN:=@PySem.W.looks_mroIn
def YDO:=@Option.map_some
def YDP:=@List.replicate_succ
def YDQ:=@List.map_congr_left
def YDR:=@List.filterMap_cons
def YDS:=@List.length_eraseIdx_of_lt
def YDT:=@Array.toList_setIfInBounds
def YDU:=@PySem.W.kitx_tuple
def YDV:=@List.map_nil
def YDW:=@PySem.Calls.spliced_cons
def YDX:=@List.pairwise_iff_getElem
def YDY:=@List.forIn_nil
def YDZ:=@PySem.Calls.call_function_entry
set_option maxRecDepth 100000
namespace L2
open PySem PySem.Spec PyProof.Rows
abbrev Key:=Sum Int Str
noncomputable def Zem:Key→Value→Bool
 | .inl k,v=>Value.isInt k v
 | .inr x,v=>Value.isStrOf x v
noncomputable def keyH (w:World):Key→Int
 | .inl k=>hashInt k
 | .inr x=>hashStr w x
theorem ZaU:∀ {k:Key} {v:Value},Zem k v=true→(∃i t,k=Sum.inl i∧v=Value.int i t)∨(∃x t,k=Sum.inr x∧v=Value.str x t)
 | .inl i,v,h=>by
  obtain⟨t,e⟩:=Value.isInt_shape (k:=i) (v:=v) h
  exact .inl ⟨i,t,rfl,e⟩
 | .inr x,v,h=>by
  obtain⟨t,e⟩:=Value.isStrOf_shape (x:=x) (v:=v) h
  exact .inr ⟨x,t,rfl,e⟩
theorem Zil (i:Int)(t:Tok):Zem (.inl i) (.int i t)=true:=by simp[Zem,Value.isInt]
theorem Zik (x:Str)(t:Tok):Zem (.inr x) (.str x t)=true:=by simp[Zem,Value.isStrOf]
theorem Znf (a b:Int):decide ((Sum.inl a:Key)=Sum.inl b)=(a == b):=by
 by_cases e:a=b
 ·subst e;simp
 ·have h:¬(Sum.inl a:Key)=Sum.inl b:=fun q=>e (Sum.inl.inj q)
  rw[decide_eq_false h]
  exact(beq_eq_false_iff_ne.mpr e).symm
theorem Znc (a b:Str):decide ((Sum.inr a:Key)=Sum.inr b)=decide (a=b):=by
 by_cases e:a=b
 ·subst e;simp
 ·have h:¬(Sum.inr a:Key)=Sum.inr b:=fun q=>e (Sum.inr.inj q)
  rw[decide_eq_false h,decide_eq_false e]
theorem Zne (a:Int)(b:Str):decide ((Sum.inl a:Key)=Sum.inr b)=false:=decide_eq_false (fun q=>nomatch q)
theorem Znd (a:Str)(b:Int):decide ((Sum.inr a:Key)=Sum.inl b)=false:=decide_eq_false (fun q=>nomatch q)
noncomputable def ZaI (prog:Program)(w:World):PySem.KeyKind prog w Key where
 is:=Zem
 hash:=keyH w
 inj:=fun v a b ha hb=>by
  rcases ZaU ha with⟨i,t,rfl,rfl⟩|⟨x,t,rfl,rfl⟩
  ·rcases ZaU hb with⟨j,u,rfl,e⟩|⟨y,u,rfl,e⟩
   ·injection e with e1 _;rw[e1]
   ·exact nomatch e
  ·rcases ZaU hb with⟨j,u,rfl,e⟩|⟨y,u,rfl,e⟩
   ·exact nomatch e
   ·injection e with e1 _;rw[e1]
 byValue:=fun k v h=>by
  rcases ZaU h with⟨i,t,rfl,rfl⟩|⟨x,t,rfl,rfl⟩<;>rfl
 pyHash:=fun hv h=>by
  rcases ZaU hv with⟨i,t,rfl,rfl⟩|⟨x,t,rfl,rfl⟩
  ·exact wpAny_pyHash_int h
  ·exact wpAny_pyHash_str h
 eqBool:=fun hu hv h=>by
  rcases ZaU hu with⟨i,t,rfl,rfl⟩|⟨x,t,rfl,rfl⟩
  ·rcases ZaU hv with⟨j,u,rfl,rfl⟩|⟨y,u,rfl,rfl⟩
   ·rw[Znf]at h;exact wpAny_eqBool_int h
   ·rw[Zne]at h;exact SeqAt.EqAt.int_str i t y u _ _ _ _ h
  ·rcases ZaU hv with⟨j,u,rfl,rfl⟩|⟨y,u,rfl,rfl⟩
   ·rw[Znd]at h;exact SeqAt.EqAt.str_int x t j u _ _ _ _ h
   ·rw[Znc]at h;exact wpAny_eqBool_str h
 «strs»:=fun k x t v h=>by
  rcases ZaU h with⟨i,u,rfl,e⟩|⟨y,u,rfl,e⟩
  ·exact nomatch e
  ·injection e with e1 _
   subst e1
   cases v<;>rfl
theorem ZfK (prog:Program)(w:World)(i:Int)(t:Tok):(ZaI prog w).is (.inl i) (.int i t)=true:=Zil i t
theorem Zdp (prog:Program)(w:World)(x:Str)(t:Tok):(ZaI prog w).is (.inr x) (.str x t)=true:=Zik x t
inductive V where
 | non | bl (b:Bool) | int (i:Int) | str (x:Str) | byt (b:Array UInt8) | flt (b:UInt64) | ref (a:Addr) | ty (n:String)
 deriving DecidableEq
def RelV:V→Value→Prop
 | .non,u=>u=Value.none
 | .bl b,u=>u=Value.bool b
 | .int i,u=>∃t,u=Value.int i t
 | .str x,u=>∃t,u=Value.str x t
 | .byt b,u=>∃t,u=Value.bytes b t
 | .flt b,u=>∃t,u=Value.float b t
 | .ref a,u=>u=Value.ref a
 | .ty n,u=>u=Value.type n
abbrev Vals:List V→List Value→Prop:=Paired RelV
theorem Vals.length {xs:List V}{us:List Value}(r:Vals xs us):xs.length=us.length:=Paired.length r
theorem Vals.get:∀ {xs:List V} {us:List Value} {i:Nat} {x:V},Vals xs us→xs[i]?=some x→∃u,us[i]?=some u∧RelV x u
 | _,_,_,_,.nil,e=>by simp at e
 | _,_,0,_,.cons r _,e=>by simp at e;subst e;exact⟨_,rfl,r⟩
 | _,_,i+1,x,.cons _ t,e=>by
  obtain⟨u,h1,h2⟩:=Vals.get (i:=i) (x:=x) t (by simpa using e)
  exact⟨u,by simpa using h1,h2⟩
theorem Vals.set {x:V}{u:Value}(r:RelV x u):∀ {xs:List V} {us:List Value} (i:Nat),Vals xs us→Vals (xs.set i x) (us.set i u)
 | _,_,_,.nil=>.nil
 | _,_,0,.cons _ t=>.cons r t
 | _,_,i+1,.cons q t=>.cons q (Vals.set r i t)
theorem Vals.append:∀ {xs ys:List V} {us ws:List Value},Vals xs us→Vals ys ws→Vals (xs++ys) (us++ws)
 | _,_,_,_,.nil,s=>s
 | _,_,_,_,.cons r t,s=>.cons r (Vals.append t s)
theorem Vals.take:∀ {xs:List V} {us:List Value} (n:Nat),Vals xs us→Vals (xs.take n) (us.take n)
 | _,_,0,_=>.nil
 | _,_,_+1,.nil=>.nil
 | _,_,n+1,.cons r t=>.cons r (Vals.take n t)
theorem Vals.drop:∀ {xs:List V} {us:List Value} (n:Nat),Vals xs us→Vals (xs.drop n) (us.drop n)
 | _,_,0,r=>r
 | _,_,_+1,.nil=>.nil
 | _,_,n+1,.cons _ t=>Vals.drop n t
def RelO:Option V→Option Value→Prop
 | some v,some u=>RelV v u
 | none,none=>True
 | _,_=>False
def KV {κ:Type}:List (κ×V)→List (κ×Value)→Prop:=Paired fun (p:κ×V) (q:κ×Value)=>p.1=q.1∧RelV p.2 q.2
noncomputable def kV:Key→V
 | .inl i=>.int i
 | .inr x=>.str x
inductive HO where
 | lst (xs:List V)
 | tup (xs:List V)
 | dK (kvs:List (Key×V)) | dT (kvs:List (List Key×V))
 | set (S:Int→Bool) (n:Nat)
 | ins (C dx:Addr) (fs:List (Str×V))
 | own (x:Addr)
 | xd (fs:List (Str×V))
 | met (f x:Addr)
 | rng (lo hi:Int)
 | frz (o:Obj) (u:HO)
 | tbl (ps:Array Value)
 | ext (φ:Heap→Prop)
abbrev Hp:=Addr→Option HO
noncomputable def upd (H:Hp)(a:Addr)(o:HO):Hp:=fun b=>if b=a then some o else H b
theorem Zad {H:Hp}{a:Addr}{o:HO}:upd H a o a=some o:=by unfold upd;rw[YAO rfl]
theorem Zae {H:Hp}{a b:Addr}{o:HO}(h:b≠a):upd H a o b=H b:=by unfold upd;rw[YAJ h]
theorem Zpk {H:Hp}{a b:Addr}{o u:HO}(h:H a=some o)(h':H b=some u)(d:o≠u):a≠b:=by
 intro e;subst e;rw[h]at h';exact d (Option.some.inj h')
theorem Zak {H:Hp}{a b:Addr}{o:HO}(h:H a=some o)(h':H b=none):a≠b:=by
 intro e;subst e;rw[h]at h';cases h'
section
variable (P:Program)(w:World)
def ObjOk (H:Hp)(h:Heap)(a:Addr):HO→Prop
 | .lst xs=>xs.length≤sizeLine∧∃(its:List Value) (n:Nat),Vals xs its∧h.get? a=some { cls:=.type "list",data:=.seq its.toArray n }
 | .tup xs=>xs.length≤sizeLine∧∃its:List Value,Vals xs its∧IsTup h a its.toArray
 | .dK kvs=>kvs.length≤sizeLine∧(a == sysModules)=false∧∃vs,KV kvs vs∧h.DictOf (ZaI P w) a vs
 | .dT kvs=>kvs.length≤sizeLine∧(a == sysModules)=false∧∃xs:List (List Key×Addr×Value),
   Paired (fun (p:List Key×V) (q:List Key×Addr×Value)=>p.1=q.1∧H q.2.1=some (.tup (p.1.map kV))∧RelV p.2 q.2.2) kvs xs ∧
   ∃o es ep,h.get? a=some o∧o.ExactDict∧o.data=.dict es ep∧es.toList=xs.map (entryOfKey (tupleKind (ZaI P w)))∧(xs.map (·.1)).Nodup
 | .set S n=>h.SetOf (intKind P w) a S n
 | .ins C dx fs=>H dx=some (.own a)∧fs.length≤1000∧dx≠a∧h.get? a=some (PySem.W.instObj C dx) ∧
   ∃mA,h.Ns1 dx mA∧(∀f,RelO (fs.lookup f) (mA f))∧PySem.Within mA (fs.map (·.1))
 | .own _=>∃o,h.get? a=some o
 | .xd fs=>∃mA,h.Ns1 a mA∧∀f,RelO (fs.lookup f) (mA f)
 | .rng lo hi=>∃t u v,h.get? a=some { cls:=.type "range",data:=.fields #[.int lo t,.int hi u,.int 1 v] }
 | .frz o u=>h.get? a=some o∧ObjOk H h a u
 | .tbl ps=>h.get? a=some { cls:=.none,data:=.fields ps }
 | .met f x=>h.get? a=some (PySem.W.methodObj (.ref f) (.ref x))
 | .ext φ=>φ h∧(∃o,h.get? a=some o)∧∀h1 h2:Heap,φ h1→(∀o,h1.get? a=some o→h2.get? a=some o)→φ h2
def HOk (H:Hp)(h:Heap):Prop:=∀a o,H a=some o→ObjOk P w H h a o
end
section
variable {P:Program}{w:World}{H H':Hp}{h h':Heap}{a:Addr}{o:HO}
theorem ObjOk.lt (x:ObjOk P w H h a o):a<h.objs.size:=by
 cases o with
 | lst xs=>obtain⟨_,_,_,_,e⟩:=x;exact YAH e
 | tup xs=>obtain⟨_,_,_,p⟩:=x;exact p.lt
 | dK kvs=>obtain⟨_,_,_,_,o,_,_,e,_⟩:=x;exact YAH e
 | dT kvs=>obtain⟨_,_,_,_,o,_,_,e,_⟩:=x;exact YAH e
 | set S n=>obtain⟨o,_,_,_,e,_⟩:=x;exact YAH e
 | ins C dx fs=>obtain⟨_,_,_,e,_⟩:=x;exact YAH e
 | own y=>obtain⟨_,e⟩:=x;exact YAH e
 | xd fs=>obtain⟨_,⟨_,_,_,e,_⟩,_⟩:=x;exact YAH e
 | rng lo hi=>obtain⟨_,_,_,e⟩:=x;exact YAH e
 | frz ob u=>obtain⟨e,_⟩:=x;exact YAH e
 | tbl ps=>exact YAH (show h.get? a=some _ from x)
 | met f y=>exact YAH (show h.get? a=some _ from x)
 | ext φ=>obtain⟨_,⟨_,e⟩,_⟩:=x;exact YAH e
theorem Paired.mapP {α β:Type}{F G:α→β→Prop}:∀ {l₁:List α} {l₂:List β},Paired F l₁ l₂→(∀a b,F a b→G a b)→Paired G l₁ l₂
 | _,_,.nil,_=>.nil
 | _,_,.cons r t,f=>.cons (f _ _ r) (Paired.mapP t f)
theorem ObjOk.stay (x:ObjOk P w H h a o)(k:∀b u,(b=a∨H b=some (.own a))→h.get? b=some u→h'.get? b=some u)
  (ho:∀b,H b=some (.own a)→H' b=some (.own a)) (ht:∀b xs,H b=some (.tup xs)→H' b=some (.tup xs)):ObjOk P w H' h' a o:=by
 induction o with
 | lst xs=>obtain⟨z,its,n,r,e⟩:=x;exact⟨z,its,n,r,k _ _ (.inl rfl) e⟩
 | tup xs=>obtain⟨z,its,r,ob,e,c⟩:=x;exact⟨z,its,r,ob,k _ _ (.inl rfl) e,c⟩
 | dK kvs=>obtain⟨z,y,vs,r,ob,es,ep,e,c⟩:=x;exact⟨z,y,vs,r,ob,es,ep,k _ _ (.inl rfl) e,c⟩
 | dT kvs=>
  obtain⟨z,y,xs,r,ob,es,ep,e,c⟩:=x
  exact⟨z,y,xs,Paired.mapP r fun p q z=>⟨z.1,ht _ _ z.2.1,z.2.2⟩,ob,es,ep,k _ _ (.inl rfl) e,c⟩
 | set S n=>obtain⟨ob,es,ep,t,e,c⟩:=x;exact⟨ob,es,ep,t,k _ _ (.inl rfl) e,c⟩
 | ins C dx fs=>
  obtain⟨d,z,ne,e,mA,⟨od,es,ep,e2,c⟩,r⟩:=x
  exact⟨ho _ d,z,ne,k _ _ (.inl rfl) e,mA,⟨od,es,ep,k _ _ (.inr d) e2,c⟩,r⟩
 | own y=>obtain⟨ob,e⟩:=x;exact⟨ob,k _ _ (.inl rfl) e⟩
 | xd fs=>obtain⟨mA,⟨od,es,ep,e,c⟩,r⟩:=x;exact⟨mA,⟨od,es,ep,k _ _ (.inl rfl) e,c⟩,r⟩
 | rng lo hi=>obtain⟨t,u,v,e⟩:=x;exact⟨t,u,v,k _ _ (.inl rfl) e⟩
 | frz ob u ih=>obtain⟨e,q⟩:=x;exact⟨k _ _ (.inl rfl) e,ih q⟩
 | tbl ps=>
  have e:h.get? a=some { cls:=.none,data:=.fields ps }:=x
  show h'.get? a=some { cls:=.none,data:=.fields ps }
  exact k a _ (.inl rfl) e
 | met f y=>
  have e:h.get? a=some (PySem.W.methodObj (.ref f) (.ref y)):=x
  show h'.get? a=some (PySem.W.methodObj (.ref f) (.ref y))
  exact k a _ (.inl rfl) e
 | ext φ=>obtain⟨p,⟨o,e⟩,st⟩:=x;exact⟨st _ _ p fun o q=>k _ _ (.inl rfl) q,⟨o,k _ _ (.inl rfl) e⟩,st⟩
theorem HOk.lt (x:HOk P w H h)(e:H a=some o):a<h.objs.size:=(x a o e).lt
theorem HOk.fresh (x:HOk P w H h)(e:h.objs.size≤a):H a=none:=by
 cases q:H a with
 | none=>rfl
 | some u=>exact absurd (YAj (x.lt q) e) (YAv _)
theorem HOk.kept (x:HOk P w H h)(k:∀b u,h.get? b=some u→h'.get? b=some u):HOk P w H h':=fun a o e=>
 (x a o e).stay (fun b u _ q=>k b u q) (fun _ q=>q) fun _ _ q=>q
theorem HOk.laid (x:HOk P w H h)(k:∀b u,h.get? b=some u→h'.get? b=some u)(hp:h.objs.size≤a)(new:ObjOk P w (upd H a o) h' a o):HOk P w (upd H a o) h':=fun b u e=>by
 have hn:=x.fresh hp
 by_cases hb:b=a
 ·subst hb;rw[Zad]at e;cases e;exact new
 ·rw[Zae hb]at e
  exact(x b u e).stay (fun c v _ q=>k c v q) (fun c q=>by rw[Zae (Zak q hn)];exact q) fun c xs q=>by rw[Zae (Zak q hn)];exact q
end
def Rd (H:Hp)(a:Addr)(u:HO):Prop:=H a=some u∨∃o,H a=some (.frz o u)
theorem Rd.ok {P:Program}{w:World}{H:Hp}{h:Heap}{a:Addr}{u:HO}(r:Rd H a u)(x:HOk P w H h):ObjOk P w H h a u:=by
 rcases r with r | ⟨o,r⟩
 ·exact x a u r
 ·obtain⟨_,q⟩:=x a _ r
  exact q
def Mut:Option HO→Prop
 | some (.lst _)=>True
 | some (.dK _)=>True
 | some (.dT _)=>True
 | some (.set _ _)=>True
 | some (.ins _ _ _)=>True
 | some (.ext _)=>True
 | _=>False
section
variable {P:Program}{w:World}{H:Hp}{h h':Heap}{x e:Addr}{o':HO}
theorem HOk.write (ok:HOk P w H h)(mu:Mut (H x))(he:e=x∨H e=some (.own x))(k:∀b u,b≠e→h.get? b=some u→h'.get? b=some u)(heo:∃u,h'.get? e=some u)
  (new:ObjOk P w (upd H x o') h' x o'):HOk P w (upd H x o') h':=fun b u q=>by
 have nown:∀c y,H c=some (.own y)→c≠x:=fun c y r z=>by subst z;rw[r]at mu;exact mu
 have ntup:∀c xs,H c=some (.tup xs)→c≠x:=fun c xs r z=>by subst z;rw[r]at mu;exact mu
 by_cases hb:b=x
 ·subst hb;rw[Zad]at q;cases q;exact new
 ·rw[Zae hb]at q
  by_cases hbe:b=e
  ·have q':H b=some (.own x):=by
    rcases he with z | z
    ·exact absurd (hbe.trans z) hb
    ·rw[hbe];exact z
   rw[q]at q';cases q'
   obtain⟨v,hv⟩:=heo
   exact⟨v,by rw[hbe];exact hv⟩
  ·refine(ok b u q).stay (fun c v hc r=>k c v ?_ r) (fun c r=>by rw[Zae (nown c b r)];exact r) fun c xs r=>by rw[Zae (ntup c xs r)];exact r
   rcases hc with rfl | hc
   ·exact hbe
   ·rintro rfl
    rcases he with z | z
    ·exact nown c b hc z
    ·rw[hc]at z;cases z;exact hb rfl
end
structure Un (fs ex:List Addr)(H H':Hp)(h h':Heap):Prop where
 keep:∀b o,h.get? b=some o→H b=none→b∉fs→b∉ex→h'.get? b=some o
 slot:∀b o,h.get? b=some o→H b=none→b∈fs→b∉ex→∃sl,h'.get? b=some { o with slots:=sl }
 free:∀b o,h.get? b=some o→H b=none→b∉ex→H' b=none
 there:∀b o,h.get? b=some o→b∉ex→∃o',h'.get? b=some o'
 tups:∀b xs,H b=some (.tup xs)→H' b=some (.tup xs)
 frzs:∀b o u,H b=some (.frz o u)→H' b=some (.frz o u)
 tbls:∀b ps,H b=some (.tbl ps)→∃more,H' b=some (.tbl (ps++more))
section
variable {fs fs' ex ex':List Addr}{H H1 H2:Hp}{h h1 h2 h':Heap}{a x e:Addr}{o:HO}
theorem Un.any (u:Un fs ex H H1 h h1){b:Addr}{ob:Obj}(q:h.get? b=some ob)(n:H b=none)(hx:b∉ex):∃sl,h1.get? b=some { ob with slots:=sl }:=by
 by_cases hb:b∈fs
 ·exact u.slot b ob q n hb hx
 ·exact⟨ob.slots,u.keep b ob q n hb hx⟩
theorem Un.trans (a:Un fs ex H H1 h h1)(b:Un fs ex H1 H2 h1 h2):Un fs ex H H2 h h2 where
 keep:=fun c ob q n hc hx=>b.keep c ob (a.keep c ob q n hc hx) (a.free c ob q n hx) hc hx
 slot:=fun c ob q n hc hx=>by
  obtain⟨sl,e1⟩:=a.slot c ob q n hc hx
  obtain⟨sl',e2⟩:=b.slot c _ e1 (a.free c ob q n hx) hc hx
  exact⟨sl',e2⟩
 free:=fun c ob q n hx=>by
  obtain⟨o',e1⟩:=a.there c ob q hx
  exact b.free c o' e1 (a.free c ob q n hx) hx
 there:=fun c ob q hx=>by
  obtain⟨o',e1⟩:=a.there c ob q hx
  exact b.there c o' e1 hx
 tups:=fun c xs q=>b.tups c xs (a.tups c xs q)
 frzs:=fun c ob xs q=>b.frzs c ob xs (a.frzs c ob xs q)
 tbls:=fun c ps q=>by
  obtain⟨m1,e1⟩:=a.tbls c ps q
  obtain⟨m2,e2⟩:=b.tbls c _ e1
  exact⟨m1++m2,by rw[e2,Array.append_assoc]⟩
theorem Un.kept (k:∀b u,h.get? b=some u→h'.get? b=some u):Un fs ex H H h h':=
 ⟨fun b ob q _ _ _=>k b ob q,fun b ob q _ _ _=>⟨ob.slots,k b ob q⟩,fun _ _ _ n _=>n,fun b ob q _=>⟨ob,k b ob q⟩,fun _ _ q=>q,fun _ _ _ q=>q,fun _ ps q=>⟨#[],by rw[q];simp⟩⟩
theorem Un.refl:Un fs ex H H h h:=Un.kept fun _ _ q=>q
theorem Un.laid (k:∀b u,h.get? b=some u→h'.get? b=some u)(hp:h.objs.size≤a)(hn:H a=none):Un fs ex H (upd H a o) h h' where
 keep:=fun b u q _ _ _=>k b u q
 slot:=fun b u q _ _ _=>⟨u.slots,k b u q⟩
 free:=fun b u q n _=>by rw[Zae (YAX (YAj (YAH q) hp))];exact n
 there:=fun b u q _=>⟨u,k b u q⟩
 tups:=fun b xs q=>by rw[Zae (Zak q hn)];exact q
 frzs:=fun b u xs q=>by rw[Zae (Zak q hn)];exact q
 tbls:=fun b ps q=>⟨#[],by rw[Zae (Zak q hn),q];simp⟩
theorem Un.write (mu:Mut (H x))(he:e=x∨H e=some (.own x))(k:∀b u,b≠e→h.get? b=some u→h'.get? b=some u)(heo:∃u,h'.get? e=some u):Un fs ex H (upd H x o) h h':=by
 have hx:∀b,H b=none→b≠x:=fun b n z=>by subst z;rw[n]at mu;exact mu
 have hb:∀b,H b=none→b≠e:=fun b n z=>by
  subst z
  rcases he with r | r
  ·exact hx b n r
  ·rw[n]at r;cases r
 have hm:∀b u,H b=some u→¬Mut (some u)→b≠x:=fun b u q nm z=>by subst z;rw[q]at mu;exact nm mu
 refine⟨fun b u q n _ _=>k b u (hb b n) q,fun b u q n _ _=>⟨u.slots,k b u (hb b n) q⟩,fun b u q n _=>by rw[Zae (hx b n)];exact n,fun b u q _=>?_,
  fun b xs q=>by rw[Zae (hm b _ q fun z=>z)];exact q,fun b u xs q=>by rw[Zae (hm b _ q fun z=>z)];exact q,fun b ps q=>⟨#[],by rw[Zae (hm b _ q fun z=>z),q];simp⟩⟩
 by_cases hbe:b=e
 ·subst hbe;exact heo
 ·exact⟨u,k b u hbe q⟩
end
noncomputable def trk (h:Heap)(H:Hp):List Addr:=(List.range h.objs.size).filter fun a=>(H a).isSome
noncomputable def hidT (h:Heap)(H:Hp):Heap:=PySem.W.hideAll h (trk h H)
theorem Zfh (h:Heap)(H:Hp):(hidT h H).objs.size=h.objs.size:=PySem.W.hideAll_size _ _
theorem ZgB {h:Heap}{H:Hp}{b:Addr}{o:Obj}(e:h.get? b=some o)(n:H b=none):(hidT h H).get? b=some o:=
 PySem.W.hideAll_get _ e fun hm=>by
  have q:(H b).isSome=true:=(YCL.mp hm).2
  rw[n]at q;simp at q
theorem Zh2 {h:Heap}{H:Hp}{b:Addr}{o:Obj}(e:(hidT h H).get? b=some o):h.get? b=some o∧H b=none:=by
 have e':h.get? b=some o:=PySem.W.of_hideAll (trk h H) e
 refine⟨e',?_⟩
 cases q:H b with
 | none=>rfl
 | some x=>
  have hm:b∈trk h H:=YCL.mpr ⟨YBA.mpr (YAH e'),by simp[q]⟩
  have z:(hidT h H).get? b=none:=PySem.W.hideAll_none (trk h H) hm
  rw[z]at e;cases e
noncomputable def ZlH (g h:Heap)(L:Addr):List (Addr×Obj):=(List.range h.objs.size).filterMap fun a=>if a=L∨(g.get? a).isSome=true then none else (h.get? a).map fun o=>(a,o)
noncomputable def rest (g h:Heap)(L d:Addr):List (Addr×Obj):=(ZlH g h L).filter fun p=>decide (p.1≠d)
structure Mod (K:PySem.W.Frag)(mg:Str→Option Value)(base:Heap):Prop where
 kin:K.In base
 glob:base.Ns mainGlobals mg
 blt:∃mb,base.Ns builtinsNs mb∧∀x:Str,x≠"__name__"→mb x=bootBuiltins x
 nolimit:base.NoLimit
structure Cx where
 prog:Program
 w:World
 K:PySem.W.Frag
 mg:Str→Option Value
 base:Heap
 A:Around
 N:List Str
 s₀:Shared
 H₀:Hp
 env:Env
 outer:List Env
 stack:List Env
 ex:List Addr
 fn:Str→Bool
 calm:Bool
 pn:List (Addr×Obj)
 xe:Value→Shared→Prop
noncomputable def frs (l:List Env):List Addr:=l.filterMap (·.frame)
noncomputable abbrev Cx.fs (X:Cx):List Addr:=frs X.outer
def Vis (sc:Scope)(x:Str):Prop:=sc.names.lookup x=some .local∨sc.names.lookup x=some .cell∨sc.names.lookup x=some .free
def Loc (sc:Scope)(x:Str):Prop:=sc.names.lookup x=some .local∨sc.names.lookup x=some .cell
def Look (env:Env)(h:Heap)(m:Str→Option Value)(x:Str)(u:Value):Prop:=
 (env.kindOf x=some .local∧m x=some u)∨((env.kindOf x=some .cell∨env.kindOf x=some .free)∧∃c,env.cells.lookup x=some c∧h.IsCell c (some u))
structure Cx.Ok (X:Cx):Prop where
 mod:Mod X.K X.mg X.base
 kind:X.env.scope.kind=.function
 glob:X.env.globals=mainGlobals
 blt:X.env.builtins=builtinsNs
 above:X.s₀.heap.objs.size≤X.env.locals
 inj:∀x y c,X.env.cells.lookup x=some c→X.env.cells.lookup y=some c→x=y
 has:∀x,(X.env.kindOf x=some .cell∨X.env.kindOf x=some .free)→∃c,X.env.cells.lookup x=some c
 cab:∀x c,X.fn x=true→X.env.cells.lookup x=some c→X.s₀.heap.objs.size≤c
 hd:X.calm=true→X.A.handled=none
 frames:X.A.frames=some X.stack
 stk:X.stack=X.outer∨(X.stack=X.env::X.outer∧X.env.frame=some X.env.locals)
 exf:∀b∈X.ex,b≠X.env.locals∧∀x c,X.env.cells.lookup x=some c→c≠b
 bs:∀b o,X.base.get? b=some o→X.s₀.heap.get? b=some o∧X.H₀ b=none
 bsz:X.base.objs.size≤X.s₀.heap.objs.size
 noex:∀b o,X.base.get? b=some o→b∉X.ex
 exfs:∀b∈X.ex,b∉X.fs
 funs:X.s₀.heap.FunFrames X.base X.outer
 frf:∀b∈X.fs,X.H₀ b=none
structure Inv (X:Cx)(pins:List (Addr×Obj))(σ:List (Option V))(H:Hp)(s:Shared):Prop where
 ok:X.Ok
 os:s.os=X.s₀.os
 bare:AllBare s.gens
 base:Un X.fs X.ex X.H₀ H X.s₀.heap s.heap
 loc:∃m,s.heap.Ns X.env.locals m∧∀(i:Nat) (x:Str) (v:V),X.N[i]?=some x→σ[i]?=some (some v)→Vis X.env.scope x→∃u,RelV v u∧Look X.env s.heap m x u
 cell:∀x c,X.env.cells.lookup x=some c→∃v,s.heap.IsCell c v
 free:H X.env.locals=none
 freeC:∀x c,X.env.cells.lookup x=some c→H c=none
 pin:∀p∈X.pn++pins,s.heap.get? p.1=some p.2∧H p.1=none∧p.1≠X.env.locals∧p.1∉X.fs∧∀v,p.2.data≠.cell v
 hok:HOk X.prog X.w H s.heap
 len:σ.length=X.N.length
section
variable {X:Cx}{pins:List (Addr×Obj)}{σ:List (Option V)}{H H':Hp}{s:Shared}{h':Heap}
theorem Cx.Ok.nofr (ok:X.Ok){b:Addr}{o:Obj}(e:X.base.get? b=some o):b∉X.fs:=fun hb=>by
 have:=(ok.funs.mem hb).1
 rw[e]at this;cases this
theorem Inv.bs (I:Inv X pins σ H s):∀b o,X.base.get? b=some o→s.heap.get? b=some o∧H b=none:=fun b o e=>
 ⟨I.base.keep b o (I.ok.bs b o e).1 (I.ok.bs b o e).2 (I.ok.nofr e) (I.ok.noex b o e),I.base.free b o (I.ok.bs b o e).1 (I.ok.bs b o e).2 (I.ok.noex b o e)⟩
theorem Inv.bk (I:Inv X pins σ H s):∀b o,X.base.get? b=some o→s.heap.get? b=some o:=fun b o e=>(I.bs b o e).1
theorem Inv.mod (I:Inv X pins σ H s):Mod X.K X.mg X.base:=I.ok.mod
theorem Inv.kIn (I:Inv X pins σ H s):X.K.In s.heap:=I.ok.mod.kin.keeps I.bk
theorem Inv.lt (I:Inv X pins σ H s):X.env.locals<s.heap.objs.size:=let ⟨_,hn,_⟩:=I.loc;hn.lt
theorem Inv.sz (I:Inv X pins σ H s):X.s₀.heap.objs.size≤s.heap.objs.size:=YAP I.ok.above (YCv I.lt)
theorem Inv.nofs (I:Inv X pins σ H s){a:Addr}(h:s.heap.objs.size≤a):a∉X.fs:=fun hb=>by
 obtain⟨_,o,ho,_⟩:=I.ok.funs.mem hb
 exact absurd (YAj (YAH ho) (YAP I.sz h)) (YAv _)
theorem Inv.cne (I:Inv X pins σ H s):∀x c,X.env.cells.lookup x=some c→c≠X.env.locals:=fun x c e z=>by
 obtain⟨v,o,ho,hd⟩:=I.cell x c e
 obtain⟨m,⟨o',es,ep,ho',hd',_⟩,_⟩:=I.loc
 rw[z,ho']at ho;cases ho;rw[hd']at hd;cases hd
theorem Inv.funs (I:Inv X pins σ H s):s.heap.FunFrames X.base X.outer:=by
 have all:∀(l:List Env),(∀b∈frs l,b∈X.fs)→X.s₀.heap.FunFrames X.base l→s.heap.FunFrames X.base l:=by
  intro l
  induction l with
  | nil=>intro _ _;trivial
  | cons env r ih=>
   intro hs hl
   obtain⟨hk,⟨L,o,hf,hn,ho,hd⟩,hr⟩:=hl
   have hL:L∈X.fs:=hs L (by unfold frs;rw[YDR,hf];exact YAa)
   obtain⟨sl,e⟩:=I.base.slot L o ho (I.ok.frf L hL) hL fun z=>I.ok.exfs L z hL
   exact⟨hk,⟨L,_,hf,hn,e,hd⟩,ih (fun b hb=>hs b (by unfold frs;rw[YDR,hf];exact YAW _ hb)) hr⟩
 exact all X.outer (fun _ hb=>hb) I.ok.funs
theorem Inv.stack (I:Inv X pins σ H s):s.heap.FunFrames X.base X.stack:=by
 rcases I.ok.stk with e | ⟨e,hf⟩
 ·rw[e];exact I.funs
 ·rw[e]
  obtain⟨m,hn,_⟩:=I.loc
  refine .cons (by rw[I.ok.kind];decide) hf hn ?_ I.funs
  exact Heap.get?_none_of_le (YAP I.ok.bsz I.ok.above)
theorem Inv.stkSub (I:Inv X pins σ H s):∀b∈frs X.stack,b∈X.env.locals::X.fs:=fun b hb=>by
 rcases I.ok.stk with e | ⟨e,hf⟩
 ·rw[e]at hb;exact YAW _ hb
 ·rw[e]at hb
  unfold frs at hb
  rw[YDR,hf]at hb
  exact hb
theorem Inv.stkFree (I:Inv X pins σ H s):∀b∈frs X.stack,H b=none:=fun b hb=>by
 rcases YAK.mp (I.stkSub b hb) with e | hb
 ·rw[e];exact I.free
 ·obtain⟨_,o,ho,_⟩:=I.ok.funs.mem hb
  exact I.base.free b o ho (I.ok.frf b hb) fun z=>I.ok.exfs b z hb
theorem Inv.step {g':Array GenState}{t':Nat}{d':Drawn}{ch:List Addr}(I:Inv X pins σ H s)
  (hch:∀b∈ch,(b∈X.ex∨X.s₀.heap.objs.size≤b)∧b≠X.env.locals∧(∀x c,X.env.cells.lookup x=some c→c≠b)∧∀p∈X.pn++pins,p.1≠b)
  (keep:∀b o,b≠X.env.locals→b∉X.fs→b∉ch→s.heap.get? b=some o→H b=none→h'.get? b=some o)
  (slot:∀b o,b≠X.env.locals→b∈X.fs→b∉ch→s.heap.get? b=some o→H b=none→∃sl,h'.get? b=some { o with slots:=sl }) (free:∀b o,b∉ch→s.heap.get? b=some o→H b=none→H' b=none)
  (there:∀b o,b∉ch→s.heap.get? b=some o→∃o',h'.get? b=some o')
  (tups:∀b xs,H b=some (.tup xs)→H' b=some (.tup xs)) (frzs:∀b o u,H b=some (.frz o u)→H' b=some (.frz o u)) (tbls:∀b ps,H b=some (.tbl ps)→∃more,H' b=some (.tbl (ps++more)))
  (ns:∀m,s.heap.Ns X.env.locals m→h'.Ns X.env.locals m) (hok:HOk X.prog X.w H' h') (hg:AllBare g'):
  Inv X pins σ H' { s with heap:=h',gens:=g',drawn:=d',toks:=t' }:=by
 have neL:∀b o,X.s₀.heap.get? b=some o→b≠X.env.locals:=fun b o e=>YAX (YAj (YAH e) I.ok.above)
 have neC:∀b o,X.s₀.heap.get? b=some o→b∉X.ex→b∉ch:=fun b o e hx hb=>by
  rcases (hch b hb).1 with z | z
  ·exact hx z
  ·exact absurd (YAj (YAH e) z) (YAv _)
 have cellK:∀x c,X.env.cells.lookup x=some c→∀v,s.heap.IsCell c v→h'.IsCell c v:=fun x c e v ⟨o,ho,hd⟩=>by
  have nch:c∉ch:=fun z=>(hch c z).2.2.1 x c e rfl
  by_cases hc:c∈X.fs
  ·obtain⟨sl,q⟩:=slot c o (I.cne x c e) hc nch ho (I.freeC x c e)
   exact⟨_,q,hd⟩
  ·exact⟨o,keep c o (I.cne x c e) hc nch ho (I.freeC x c e),hd⟩
 refine⟨I.ok,I.os,hg,⟨fun b o e n hb hx=>?_,fun b o e n hb hx=>?_,fun b o e n hx=>?_,fun b o e hx=>?_,fun b xs e=>tups b xs (I.base.tups b xs e),fun b o xs e=>frzs b o xs (I.base.frzs b o xs e),fun b ps e=>?_⟩,?_,fun x c e=>?_,?_,fun x c e=>?_,fun p hp=>?_,hok,I.len⟩
 ·exact keep b o (neL b o e) hb (neC b o e hx) (I.base.keep b o e n hb hx) (I.base.free b o e n hx)
 ·obtain⟨sl,e1⟩:=I.base.slot b o e n hb hx
  obtain⟨sl',e2⟩:=slot b _ (neL b o e) hb (neC b o e hx) e1 (I.base.free b o e n hx)
  exact⟨sl',e2⟩
 ·obtain⟨o',e1⟩:=I.base.there b o e hx
  exact free b o' (neC b o e hx) e1 (I.base.free b o e n hx)
 ·obtain⟨o',e1⟩:=I.base.there b o e hx
  exact there b o' (neC b o e hx) e1
 ·obtain⟨m1,e1⟩:=I.base.tbls b ps e
  obtain⟨m2,e2⟩:=tbls b _ e1
  exact⟨m1++m2,by rw[e2,Array.append_assoc]⟩
 ·obtain⟨m,hn,hl⟩:=I.loc
  refine⟨m,ns m hn,fun i x v e1 e2 e3=>?_⟩
  obtain⟨u,r,l⟩:=hl i x v e1 e2 e3
  refine⟨u,r,?_⟩
  rcases l with l | ⟨k,c,e,z⟩
  ·exact .inl l
  ·exact .inr ⟨k,c,e,cellK x c e _ z⟩
 ·obtain⟨v,z⟩:=I.cell x c e
  exact⟨v,cellK x c e v z⟩
 ·obtain⟨m,⟨o,_,_,ho,_⟩,_⟩:=I.loc
  exact free _ o (fun z=>(hch _ z).2.1 rfl) ho I.free
 ·obtain⟨v,o,ho,hd⟩:=I.cell x c e
  exact free c o (fun z=>(hch c z).2.2.1 x c e rfl) ho (I.freeC x c e)
 ·obtain⟨e,n,ne,nf,d⟩:=I.pin p hp
  have nch:p.1∉ch:=fun z=>(hch p.1 z).2.2.2 p hp rfl
  exact⟨keep p.1 p.2 ne nf nch e n,free p.1 p.2 nch e n,ne,nf,d⟩
theorem Inv.un {t':Nat}(I:Inv X pins σ H s)(u:Un X.fs [] H H' s.heap h')(hok:HOk X.prog X.w H' h'):Inv X pins σ H' { s with heap:=h',toks:=t' }:=by
 obtain⟨m,⟨o,es,ep,ho,r⟩,_⟩:=id I.loc
 obtain⟨sl,hL⟩:=u.any ho I.free (by simp)
 exact I.step (g':=s.gens) (d':=s.drawn) (ch:=[]) (fun _ z=>nomatch z) (fun b o _ hb _ e n=>u.keep b o e n hb (by simp)) (fun b o _ hb _ e n=>u.slot b o e n hb (by simp)) (fun b o _ e n=>u.free b o e n (by simp)) (fun b o _ e=>u.there b o e (by simp)) u.tups u.frzs u.tbls (fun m' hm=>by
  obtain⟨o',es',ep',ho',r'⟩:=hm
  rw[ho]at ho';cases ho'
  exact⟨_,es',ep',hL,r'⟩) hok I.bare
theorem Inv.call {g':Array GenState}{t':Nat}{d':Drawn}{ch:List Addr}(I:Inv X pins σ H s)(u:Un (frs X.stack) ch H H' s.heap h')(hok:HOk X.prog X.w H' h')(hg:AllBare g')
  (hch:∀b∈ch,(b∈X.ex∨X.s₀.heap.objs.size≤b)∧b≠X.env.locals∧(∀x c,X.env.cells.lookup x=some c→c≠b)∧∀p∈X.pn++pins,p.1≠b):
  Inv X pins σ H' { s with heap:=h',gens:=g',drawn:=d',toks:=t' }:=by
 obtain⟨m,⟨o,es,ep,ho,r⟩,_⟩:=id I.loc
 obtain⟨sl,hL⟩:=u.any ho I.free fun z=>(hch _ z).2.1 rfl
 exact I.step (ch:=ch) hch (fun b o hL hb hc e n=>u.keep b o e n (fun z=>(YAK.mp (I.stkSub b z)).elim hL hb) hc) (fun b o _ _ hc e n=>u.any e n hc) (fun b o hc e n=>u.free b o e n hc) (fun b o hc e=>u.there b o e hc) u.tups u.frzs u.tbls (fun m' hm=>by
  obtain⟨o',es',ep',ho',r'⟩:=hm
  rw[ho]at ho';cases ho'
  exact⟨_,es',ep',hL,r'⟩) hok hg
theorem Inv.turned {t':Nat}{it:Addr}(I:Inv X pins σ H s)(k:∀b o,b≠it→s.heap.get? b=some o→h'.get? b=some o)(hn:H it=none)(hL:it≠X.env.locals)
  (h1:it∈X.ex∨X.s₀.heap.objs.size≤it) (h2:∀x c,X.env.cells.lookup x=some c→c≠it) (h3:∀p∈X.pn++pins,p.1≠it):Inv X pins σ H { s with heap:=h',toks:=t' }:=by
 have nit:∀b u,H b=some u→b≠it:=fun b u e z=>by rw[z,hn]at e;cases e
 refine I.step (g':=s.gens) (d':=s.drawn) (ch:=[it]) (fun b hb=>?_) (fun b o _ _ hc e _=>k b o (fun z=>hc (by simp[z])) e) (fun b o _ _ hc e _=>⟨o.slots,k b o (fun z=>hc (by simp[z])) e⟩) (fun _ _ _ _ n=>n)
  (fun b o hc e=>⟨o,k b o (fun z=>hc (by simp[z])) e⟩) (fun _ _ e=>e) (fun _ _ _ e=>e) (fun b ps e=>⟨#[],by rw[e];simp⟩) (fun m hm=>?_) (fun b u e=>?_) I.bare
 ·have e:b=it:=by simpa using hb
  subst e
  exact⟨h1,hL,h2,h3⟩
 ·obtain⟨o,es,ep,ho,r⟩:=hm
  exact⟨o,es,ep,k _ o (YAx hL) ho,r⟩
 ·refine(I.hok b u e).stay (fun c v hc q=>k c v ?_ q) (fun _ q=>q) fun _ _ q=>q
  rcases hc with z | z
  ·rw[z];exact nit b u e
  ·exact nit c _ z
theorem Inv.tok (I:Inv X pins σ H s)(t:Nat):Inv X pins σ H { s with toks:=t }:=I.un (h':=s.heap) (t':=t) Un.refl I.hok
theorem Inv.kept {t':Nat}(I:Inv X pins σ H s)(k:∀b u,s.heap.get? b=some u→h'.get? b=some u):Inv X pins σ H { s with heap:=h',toks:=t' }:=I.un (Un.kept k) (I.hok.kept k)
theorem Inv.laid {a:Addr}{o:HO}{t':Nat}(I:Inv X pins σ H s)(k:∀b u,s.heap.get? b=some u→h'.get? b=some u)(hp:s.heap.objs.size≤a)(new:ObjOk X.prog X.w (upd H a o) h' a o):
  Inv X pins σ (upd H a o) { s with heap:=h',toks:=t' }:=I.un (Un.laid k hp (I.hok.fresh hp)) (I.hok.laid k hp new)
theorem Inv.write {x e:Addr}{o:HO}{t':Nat}(I:Inv X pins σ H s)(mu:Mut (H x))(he:e=x∨H e=some (.own x))(k:∀b u,b≠e→s.heap.get? b=some u→h'.get? b=some u)(heo:∃u,h'.get? e=some u)
  (new:ObjOk X.prog X.w (upd H x o) h' x o):Inv X pins σ (upd H x o) { s with heap:=h',toks:=t' }:=I.un (Un.write mu he k heo) (I.hok.write mu he k heo new)
theorem Inv.pins_of {pins':List (Addr×Obj)}(I:Inv X pins σ H s)(h:∀p∈pins',s.heap.get? p.1=some p.2∧H p.1=none∧p.1≠X.env.locals∧p.1∉X.fs∧∀v,p.2.data≠.cell v):Inv X pins' σ H s:=
 ⟨I.ok,I.os,I.bare,I.base,I.loc,I.cell,I.free,I.freeC,fun p hp=>(YAe.mp hp).elim (fun z=>I.pin p (List.mem_append_left _ z)) (h p),I.hok,I.len⟩
theorem Zeg {N:List Str}(hN:N.Nodup){i j:Nat}{x:Str}(a:N[i]?=some x)(b:N[j]?=some x):i=j:=by
 obtain⟨h1,e1⟩:=YAc.mp a
 obtain⟨h2,e2⟩:=YAc.mp b
 exact(List.getElem_inj hN).mp (e1.trans e2.symm)
theorem ZeM {M:Model}{A:Around}{E:Value→Shared→Prop}{i:Nat}{x:Str}{v:V}{u:Value}{Q:Unit→Shared→Prop}(I:Inv X pins σ H s)(hN:X.N.Nodup)(hi:X.N[i]?=some x)(hx:Loc X.env.scope x)(r:RelV v u)
  (h:∀s',Inv X pins (σ.set i (some v)) H s'→(∃a,Heap.SameBut a s.heap s'.heap∧(a=X.env.locals∨X.env.cells.lookup x=some a))→Q () s') (hf:X.fn x=true∨X.env.scope.names.lookup x=some .local:=by first | exact .inl rfl | exact .inr rfl | assumption):wpAny M A (storeName X.env x u) Q E s:=by
 obtain⟨m,hn,hl⟩:=id I.loc
 have hcls:(X.env.scope.kind == .class || (X.env.scope.kind == .module&&X.env.locals != X.env.globals))=false:=by rw[I.ok.kind];rfl
 have hiσ:i<σ.length:=by rw[I.len];exact(YAc.mp hi).1
 have cne:=I.cne
 have tracked:∀ {a:Addr} {h':Heap},(∃o,s.heap.get? a=some o∧H a=none)→Heap.SameBut a s.heap h'→HOk X.prog X.w H h':=fun {a h'} ha hs b ob e=>by
  obtain⟨_,_,hfree⟩:=ha
  refine(I.hok b ob e).stay (fun c w' hc q=>(hs.2 c ?_).trans q) (fun _ q=>q) fun _ _ q=>q
  rintro rfl
  rcases hc with rfl | hc
  ·rw[hfree]at e;cases e
  ·rw[hfree]at hc;cases hc
 rcases hx with hk | hk
 ·refine wpAny_storeName_local hk hn (fun h' hn' hs=>?_) hcls
  obtain⟨oL,_,_,hoL,_⟩:=id hn
  refine h _ ⟨I.ok,I.os,I.bare,⟨fun b o e n hb hx=>?_,fun b o e n hb hx=>?_,I.base.free,fun b o e hx=>?_,I.base.tups,I.base.frzs,I.base.tbls⟩,⟨_,hn',fun j y v' e1 e2 e3=>?_⟩,fun y c e=>?_,I.free,I.freeC,fun p hp=>?_,tracked ⟨oL,hoL,I.free⟩ hs,by simpa using I.len⟩ ⟨_,hs,.inl rfl⟩
  ·exact(hs.2 b (YAX (YAj (YAH e) I.ok.above))).trans (I.base.keep b o e n hb hx)
  ·obtain⟨sl,e1⟩:=I.base.slot b o e n hb hx
   exact⟨sl,(hs.2 b (YAX (YAj (YAH e) I.ok.above))).trans e1⟩
  ·obtain⟨o',e1⟩:=I.base.there b o e hx
   exact⟨o',(hs.2 b (YAX (YAj (YAH e) I.ok.above))).trans e1⟩
  ·by_cases hj:j=i
   ·subst hj
    rw[hi]at e1;cases e1
    rw[List.getElem?_set_self hiσ]at e2
    cases e2
    exact⟨u,r,.inl ⟨hk,by simp⟩⟩
   ·rw[List.getElem?_set_ne (YAx hj)]at e2
    obtain⟨u',r',q⟩:=hl j y v' e1 e2 e3
    refine⟨u',r',?_⟩
    rcases q with⟨k,e⟩|⟨k,c,e,z⟩
    ·refine .inl ⟨k,?_⟩
     have:y≠x:=fun e=>hj (Zeg hN e1 (e▸hi))
     simp[this,e]
    ·exact .inr ⟨k,c,e,z.sameBut hs (cne y c e)⟩
  ·obtain⟨w',z⟩:=I.cell y c e
   exact⟨w',z.sameBut hs (cne y c e)⟩
  ·obtain⟨e,n,ne,nf,d⟩:=I.pin p hp
   exact⟨(hs.2 p.1 ne).trans e,n,ne,nf,d⟩
 ·have hfn:X.fn x=true:=by
   rcases hf with z | z
   ·exact z
   ·rw[z]at hk;cases hk
  obtain⟨c,hc⟩:=I.ok.has x (.inl hk)
  obtain⟨w',z⟩:=I.cell x c hc
  refine wpAny_storeName_cell I.ok.kind hk hc z (fun h' hc' hs=>?_)
  obtain⟨oc,hoc,hocd⟩:=id z
  refine h { s with heap:=h' } ⟨I.ok,I.os,I.bare,⟨fun b o e n hb hx=>?_,fun b o e n hb hx=>?_,I.base.free,fun b o e hx=>?_,I.base.tups,I.base.frzs,I.base.tbls⟩,⟨m,hn.sameBut hs (YAx (cne x c hc)),fun j y v' e1 e2 e3=>?_⟩,fun y c' e=>?_,I.free,I.freeC,fun p hp=>?_,tracked ⟨oc,hoc,I.freeC x c hc⟩ hs,by simpa using I.len⟩ ⟨c,hs,.inr hc⟩
  ·exact(hs.2 b (YAX (YAj (YAH e) (I.ok.cab x c hfn hc)))).trans (I.base.keep b o e n hb hx)
  ·obtain⟨sl,e1⟩:=I.base.slot b o e n hb hx
   exact⟨sl,(hs.2 b (YAX (YAj (YAH e) (I.ok.cab x c hfn hc)))).trans e1⟩
  ·obtain⟨o',e1⟩:=I.base.there b o e hx
   exact⟨o',(hs.2 b (YAX (YAj (YAH e) (I.ok.cab x c hfn hc)))).trans e1⟩
  ·by_cases hj:j=i
   ·subst hj
    rw[hi]at e1;cases e1
    rw[List.getElem?_set_self hiσ]at e2
    cases e2
    exact⟨u,r,.inr ⟨.inl hk,c,hc,hc'⟩⟩
   ·rw[List.getElem?_set_ne (YAx hj)]at e2
    obtain⟨u',r',q⟩:=hl j y v' e1 e2 e3
    refine⟨u',r',?_⟩
    rcases q with q | ⟨k,c',e,z'⟩
    ·exact .inl q
    ·refine .inr ⟨k,c',e,z'.sameBut hs ?_⟩
     rintro rfl
     exact hj (Zeg hN e1 (I.ok.inj _ _ _ e hc▸hi))
  ·by_cases hcc:c'=c
   ·subst hcc;exact⟨_,hc'⟩
   ·obtain⟨w2,z2⟩:=I.cell y c' e
    exact⟨w2,z2.sameBut hs hcc⟩
  ·obtain⟨e,n,ne,nf,d⟩:=I.pin p hp
   refine⟨(hs.2 p.1 ?_).trans e,n,ne,nf,d⟩
   intro q
   rw[q,hoc]at e
   have q':oc=p.2:=Option.some.inj e
   exact d w' (by rw[←q'];exact hocd)
theorem Zc2 {M:Model}{A:Around}{E:Value→Shared→Prop}{i:Nat}{x:Str}{v:V}{u:Value}{Q:Unit→Shared→Prop}(I:Inv X pins σ H s)(hN:X.N.Nodup)(hi:X.N[i]?=some x)(hx:Loc X.env.scope x)(r:RelV v u)
  (h:∀s',Inv X pins (σ.set i (some v)) H s'→Q () s') (hf:X.fn x=true∨X.env.scope.names.lookup x=some .local:=by first | exact .inl rfl | exact .inr rfl | assumption):wpAny M A (storeName X.env x u) Q E s:=
 ZeM I hN hi hx r (fun s' I' _=>h s' I') hf
theorem Inv.call' {s':Shared}{ch:List Addr}(I:Inv X pins σ H s)(ho:s'.os=s.os)(u:Un (frs X.stack) ch H H' s.heap s'.heap)(hok:HOk X.prog X.w H' s'.heap)(hg:AllBare s'.gens)
  (hch:∀b∈ch,(b∈X.ex∨X.s₀.heap.objs.size≤b)∧b≠X.env.locals∧(∀x c,X.env.cells.lookup x=some c→c≠b)∧∀p∈X.pn++pins,p.1≠b):Inv X pins σ H' s':=by
 obtain⟨h',g',d',t',o'⟩:=s'
 have e:o'=s.os:=ho
 subst e
 exact I.call (g':=g') (t':=t') (d':=d') u hok hg hch
end
abbrev XK:=Value→Option Addr→Hp→Prop
abbrev St:=List (Option V)
abbrev VK:=V→Hp→Prop
abbrev TE:=St→Hp→VK→Prop
abbrev TT:=St→Hp→(Bool→Hp→Prop)→Prop
abbrev TA:=St→Hp→(List V→Hp→Prop)→Prop
structure Ends where
 nx:St→Hp→Prop
 rt:VK
 bk:St→Hp→Prop:=fun _ _=>False
 ct:St→Hp→Prop:=fun _ _=>False
abbrev TS:=Ends→St→Hp→Prop
def EP (X:Cx)(pins:List (Addr×Obj))(σ:St)(Q:VK)(u:Value)(s':Shared):Prop:=∃v H',Inv X pins σ H' s'∧RelV v u∧Q v H'
def TP (X:Cx)(pins:List (Addr×Obj))(σ:St)(Q:Bool→Hp→Prop)(b:Bool)(s':Shared):Prop:=∃H',Inv X pins σ H' s'∧Q b H'
def AP (X:Cx)(pins:List (Addr×Obj))(σ:St)(Q:List V→Hp→Prop)(us:List Value)(s':Shared):Prop:=∃vs H',Inv X pins σ H' s'∧Vals vs us∧Q vs H'
def SP (X:Cx)(pins:List (Addr×Obj))(D:Ends)(f:Flow)(s':Shared):Prop:=
 match f with
 | .next=>∃σ' H',Inv X pins σ' H' s'∧D.nx σ' H'
 | .brk=>∃σ' H',Inv X pins σ' H' s'∧D.bk σ' H'
 | .cont=>∃σ' H',Inv X pins σ' H' s'∧D.ct σ' H'
 | .ret u=>∃v σ' H',Inv X pins σ' H' s'∧RelV v u∧D.rt v H'
def PE (X:Cx)(e:Expr)(t:TE):Prop:=
 ∀(pins:List (Addr×Obj)) (s:Shared) (σ:St) (H:Hp) (Q:VK),Inv X pins σ H s→t σ H Q→wpAny (model X.prog X.w) X.A (eval e X.env) (EP X pins σ Q) X.xe s
def PT (X:Cx)(e:Expr)(t:TT):Prop:=
 ∀(pins:List (Addr×Obj)) (s:Shared) (σ:St) (H:Hp) (Q:Bool→Hp→Prop),Inv X pins σ H s→t σ H Q→wpAny (model X.prog X.w) X.A (isTrue e X.env (eval e X.env)) (TP X pins σ Q) X.xe s
def PW (X:Cx)(e:Expr)(t:TT):Prop:=
 ∀(whole:Sem Value) (pins:List (Addr×Obj)) (s:Shared) (σ:St) (H:Hp) (Q:Bool→Hp→Prop),Inv X pins σ H s→t σ H Q→wpAny (model X.prog X.w) X.A (isTrue e X.env whole) (TP X pins σ Q) X.xe s
theorem PW.pt {X:Cx}{e:Expr}{t:TT}(h:PW X e t):PT X e t:=h _
def PA (X:Cx)(es:List Expr)(t:TA):Prop:=
 ∀(pos:Pos) (pins:List (Addr×Obj)) (s:Shared) (σ:St) (H:Hp) (Q:List V→Hp→Prop),Inv X pins σ H s→t σ H Q→wpAny (model X.prog X.w) X.A (spliced (backTo pos (starEach es X.env))) (AP X pins σ Q) X.xe s
def PS (X:Cx)(st:Stmt)(t:TS):Prop:=
 ∀(pins:List (Addr×Obj)) (s:Shared) (σ:St) (H:Hp) (D:Ends),Inv X pins σ H s→t D σ H→wpAny (model X.prog X.w) X.A (exec st X.env) (SP X pins D) X.xe s
def PSs (X:Cx)(st:List Stmt)(t:TS):Prop:=
 ∀(pins:List (Addr×Obj)) (s:Shared) (σ:St) (H:Hp) (D:Ends),Inv X pins σ H s→t D σ H→wpAny (model X.prog X.w) X.A (execs st X.env) (SP X pins D) X.xe s
theorem thn {α:Type}{t:Sem α}{Q Q':α→Shared→Prop}{M:Model}{A:Around}{E:Value→Shared→Prop}{s:Shared}(h:wpAny M A t Q E s)(hQ:∀a s,Q a s→Q' a s):wpAny M A t Q' E s:=YBF h hQ fun _ _ x=>x
section
variable {X:Cx}
theorem bin {a b:Expr}{ta tb:TE}(ha:PE X a ta)(hb:PE X b tb){pins:List (Addr×Obj)}{s:Shared}{σ:St}{H:Hp}{R:V→V→Hp→Prop}(I:Inv X pins σ H s)(h:ta σ H fun x H1=>tb σ H1 fun y H2=>R x y H2)
  {α:Type} {Q:α→Shared→Prop} {f:Value→Value→Sem α}
  (hf:∀v u s2 x y H2,Inv X pins σ H2 s2→RelV x v→RelV y u→R x y H2→wpAny (model X.prog X.w) X.A (f v u) Q X.xe s2):
  wpAny (model X.prog X.w) X.A (eval a X.env) (fun v s₁=>wpAny (model X.prog X.w) X.A (eval b X.env) (fun u s₂=>wpAny (model X.prog X.w) X.A (f v u) Q X.xe s₂) X.xe s₁) X.xe s:=by
 refine thn (ha pins s σ H _ I h) fun v s1 ⟨x,H1,I1,r1,q1⟩=>?_
 refine thn (hb pins s1 σ H1 _ I1 q1) fun u s2 ⟨y,H2,I2,r2,q2⟩=>?_
 exact hf v u s2 x y H2 I2 r1 r2 q2
def tVar (i:Nat):TE:=fun σ H Q=>∃v,σ[i]?=some (some v)∧Q v H
def tC (v:V):TE:=fun _ H Q=>Q v H
theorem Zmo {i:Nat} {x:Str} {pos:Pos} (hN:X.N[i]?=some x) (hv:Vis X.env.scope x) (hd:(x == ("__debug__":Str))=false:=by decide) (hcd:(x == ("__classdict__":Str))=false:=by decide):PE X (.Name x pos) (tVar i):=by
 intro pins s σ H Q I h
 obtain⟨v,e,h⟩:=h
 obtain⟨m,hn,hl⟩:=I.loc
 obtain⟨u,r,l⟩:=hl i x v hN e hv
 have fin:EP X pins σ Q u s:=⟨v,H,I,r,h⟩
 rcases l with⟨hk,hm⟩|⟨hk,c,hc,hcell⟩
 ·exact wpAny_Name (wpAny_loadName_local I.ok.kind hk hn hm fin) hd
 ·rcases hk with hk | hk
  ·exact wpAny_Name (wpAny_loadName_cell I.ok.kind hk hc hcell fin) hd
  ·exact wpAny_Name (wpAny_loadName_free I.ok.kind hk hc hcell fin hcd) hd
theorem Zag {i j pos}:PE X (.Constant (.int i) j pos) (tC (.int i)):=fun _ _ _ H _ I h=>wpAny_Constant_int ⟨.int i,H,I.tok _,⟨_,rfl⟩,h⟩
theorem Zbp {b j pos}:PE X (.Constant (.bool b) j pos) (tC (.bl b)):=fun _ _ _ H _ I h=>Constant_bool ⟨.bl b,H,I,rfl,h⟩
theorem Zb8 {j pos}:PE X (.Constant .none j pos) (tC .non):=fun _ _ _ H _ I h=>Constant_none ⟨.non,H,I,rfl,h⟩
theorem Zmp {x j pos}:PE X (.Constant (.str x) j pos) (tC (.str x)):=fun _ _ _ H _ I h=>Calls.Constant_str ⟨.str x,H,I.tok _,⟨_,rfl⟩,h⟩
def Gl (X:Cx)(x:Str):Prop:=X.env.kindOf x=some .globalImplicit
theorem Zbv {E:Value→Shared→Prop}{pins:List (Addr×Obj)}{s:Shared}{σ:St}{H:Hp}{x:Str}{u:Value}{pos:Pos}{Q:Value→Shared→Prop}(I:Inv X pins σ H s)(hg:Gl X x)(hm:X.mg x=some u)(h:Q u s)
  (hd:(x == ("__debug__":Str))=false:=by decide):wpAny (model X.prog X.w) X.A (eval (.Name x pos) X.env) Q E s:=
 Calls.Name_function_global I.ok.kind hg (Calls.loadGlobal_global (by rw[I.ok.glob];exact I.mod.glob.keeps I.bk) hm h) hd
theorem Zdu {E:Value→Shared→Prop}{pins:List (Addr×Obj)}{s:Shared}{σ:St}{H:Hp}{x:Str}{u:Value}{pos:Pos}{Q:Value→Shared→Prop}(I:Inv X pins σ H s)(hg:Gl X x)(hm:X.mg x=none)(hv:bootBuiltins x=some u)(h:Q u s)
  (hn:x≠"__name__":=by decide) (hd:(x == ("__debug__":Str))=false:=by decide):wpAny (model X.prog X.w) X.A (eval (.Name x pos) X.env) Q E s:=by
 obtain⟨mb,h1,h2⟩:=I.mod.blt
 exact Calls.Name_function_global I.ok.kind hg (Calls.loadGlobal_builtin (by rw[I.ok.glob];exact I.mod.glob.keeps I.bk) hm (by rw[I.ok.blt];exact h1.keeps I.bk) ((h2 x hn).trans hv) h) hd
theorem Zee {x:Str} {v:V} {u:Value} {pos:Pos} (hg:Gl X x) (hm:X.mg x=some u) (r:RelV v u) (hd:(x == ("__debug__":Str))=false:=by decide):PE X (.Name x pos) (tC v):=
 fun _ _ _ H _ I h=>Zbv I hg hm ⟨v,H,I,r,h⟩ hd
theorem ZaD {x:Str} {v:V} {u:Value} {pos:Pos} (hg:Gl X x) (hm:X.mg x=none) (hv:bootBuiltins x=some u) (r:RelV v u) (hn:x≠"__name__":=by decide) (hd:(x == ("__debug__":Str))=false:=by decide):PE X (.Name x pos) (tC v):=
 fun _ _ _ H _ I h=>Zdu I hg hm hv ⟨v,H,I,r,h⟩ hn hd
variable {a b:Expr}{ta tb:TE}{pos:Pos}
def PC (X:Cx)(op:CmpOp)(a b:Expr)(t:TE):Prop:=
 ∀(pins:List (Addr×Obj)) (s:Shared) (σ:St) (H:Hp) (Q:VK),Inv X pins σ H s→t σ H Q →
  wpAny (model X.prog X.w) X.A (eval a X.env) (fun v s₁=>wpAny (model X.prog X.w) X.A (eval b X.env) (fun u s₂=>wpAny (model X.prog X.w) X.A (compareOp op v u) (EP X pins σ Q) X.xe s₂) X.xe s₁) X.xe s
theorem Zji (b:Expr){op:CmpOp}(h:op≠.In)(h2:op≠.NotIn):behindInMarks op b=false:=by
 have e1:(op == CmpOp.In)=false:=by cases op<;>first | rfl | exact absurd rfl h
 have e2:(op == CmpOp.NotIn)=false:=by cases op<;>first | rfl | exact absurd rfl h2
 cases b<;>simp[behindInMarks,e1,e2]
def tB (t:TE):TT:=fun σ H Q=>t σ H fun x H1=>∃c,x=.bl c∧Q c H1
theorem Zpv {op:CmpOp}{t:TE}(h:PC X op a b t)(h1:behindInMarks op b=false:=by first | exact Zji _ (by decide) (by decide) | rfl):PT X (.Compare a [op] [b] pos) (tB t):=by
 intro pins s σ H Q I hw
 refine wpAny_isTrue_Compare1 (thn (h pins s σ H _ I hw) fun v s1 h1=>thn h1 fun u s2 h2=>thn h2 fun c s3 ⟨x,H1,I1,r1,q1⟩=>?_) h1
 obtain⟨d,rfl,q⟩:=q1
 cases r1
 exact YCH ⟨H1,I1,q⟩
theorem Za5 {e:Expr}{t:TE}(h:PE X e t)(he:∀whole,isTrue e X.env whole=(do let v ←whole;standAt e.pos;holding [v] (truthy v)):=by intro _;rfl):PT X e (tB t):=by
 intro pins s σ H Q I hw
 refine isTrue_plain (thn (h pins s σ H _ I hw) fun v s1 ⟨x,H1,I1,r1,q1⟩=>?_) (he _)
 obtain⟨d,rfl,q⟩:=q1
 cases r1
 exact YCH ⟨H1,I1,q⟩
variable {tA tB':TT}{rest:List Expr}
def tAnd (t u:TT):TT:=fun σ H Q=>t σ H fun c H1=>if c=true then u σ H1 Q else Q false H1
def tOr (t u:TT):TT:=fun σ H Q=>t σ H fun c H1=>if c=true then Q true H1 else u σ H1 Q
def tNot (t:TT):TT:=fun σ H Q=>t σ H fun c H1=>Q (!c) H1
theorem ZhM (ha:PT X a tA):PW X (.BoolOp .And [a] pos) tA:=by
 intro wh pins s σ H Q I h
 refine isTrue_and (thn (ha pins s σ H Q I h) fun c s1 e=>?_)
 cases c with
 | true=>exact isTrue_and_nil e
 | false=>exact e
theorem ZeR (ha:PT X a tA):PW X (.BoolOp .Or [a] pos) tA:=by
 intro wh pins s σ H Q I h
 refine isTrue_or (thn (ha pins s σ H Q I h) fun c s1 e=>?_)
 cases c with
 | false=>exact isTrue_or_nil e
 | true=>exact e
theorem ZjZ (ha:PT X a tA)(hb:PW X (.BoolOp .And (b::rest) pos) tB'):PW X (.BoolOp .And (a::b::rest) pos) (tAnd tA tB'):=by
 intro wh pins s σ H Q I h
 refine isTrue_and (thn (ha pins s σ H _ I h) fun c s1 ⟨H1,I1,q1⟩=>?_)
 cases c with
 | true=>exact hb wh pins s1 σ H1 Q I1 q1
 | false=>exact⟨H1,I1,q1⟩
theorem ZhL (ha:PT X a tA)(hb:PW X (.BoolOp .Or (b::rest) pos) tB'):PW X (.BoolOp .Or (a::b::rest) pos) (tOr tA tB'):=by
 intro wh pins s σ H Q I h
 refine isTrue_or (thn (ha pins s σ H _ I h) fun c s1 ⟨H1,I1,q1⟩=>?_)
 cases c with
 | true=>exact⟨H1,I1,q1⟩
 | false=>exact hb wh pins s1 σ H1 Q I1 q1
theorem Zbq (ha:PT X a tA):PT X (.UnaryOp .Not a pos) (tNot tA):=by
 intro pins s σ H Q I h
 exact isTrue_not (ha pins s σ H (fun c H1=>Q (!c) H1) I h)
def Zl3 (ta tb:TE):TE:=fun σ H Q=>ta σ H fun x H1=>∃c,x=.bl c∧if c=true then tb σ H1 Q else Q (.bl false) H1
theorem ZcT {op}{t:TE}(h:PE X a t):PE X (.BoolOp op [a] pos) t:=fun pins s σ H Q I hw=>BoolOp_one (h pins s σ H Q I hw)
theorem ZbN (ha:PE X a ta)(hb:PE X (.BoolOp .And (b::rest) pos) tb):PE X (.BoolOp .And (a::b::rest) pos) (Zl3 ta tb):=by
 intro pins s σ H Q I h
 refine BoolOp_and (thn (ha pins s σ H _ I h) fun v s1 ⟨x,H1,I1,r1,q1⟩=>?_)
 obtain⟨c,rfl,q1⟩:=q1
 cases r1
 refine YCH ?_
 cases c with
 | true=>exact hb pins s1 σ H1 Q I1 q1
 | false=>exact⟨.bl false,H1,I1,rfl,q1⟩
def tIf (t:TT)(ta tb:TE):TE:=fun σ H Q=>t σ H fun c H1=>if c=true then ta σ H1 Q else tb σ H1 Q
theorem Zgo {c:Expr}(hc:PT X c tA)(ha:PE X a ta)(hb:PE X b tb):PE X (.IfExp c a b pos) (tIf tA ta tb):=by
 intro pins s σ H Q I h
 refine wpAny_IfExp (thn (hc pins s σ H _ I h) fun d s1 ⟨H1,I1,q1⟩=>?_)
 cases d with
 | true=>exact ha pins s1 σ H1 Q I1 q1
 | false=>exact hb pins s1 σ H1 Q I1 q1
end
def SqL (K:PySem.W.Frag)(H:Hp)(a:Addr)(xs:List V):Prop:=
 Rd H a (.lst xs) ∨
  ∃(o:Obj) (its:Array Value) (n:Nat),K.lookup a=some o∧o.cls=.type "list"∧o.dict=none∧o.data=.seq its n∧its.size≤sizeLine∧Vals xs its.toList
def SqT (K:PySem.W.Frag)(H:Hp)(a:Addr)(xs:List V):Prop:=
 Rd H a (.tup xs) ∨
  ∃(o:Obj) (its:Array Value) (n:Nat),K.lookup a=some o∧o.cls=.type "tuple"∧o.data=.seq its n∧its.size≤sizeLine∧Vals xs its.toList
noncomputable def absV:Value→Option V
 | .none=>some .non
 | .bool b=>some (.bl b)
 | .int i _=>some (.int i)
 | .str x _=>some (.str x)
 | .bytes b _=>some (.byt b)
 | .float b _=>some (.flt b)
 | .ref a=>some (.ref a)
 | .type n=>some (.ty n)
 | _=>none
theorem RelV.abs {x:V}{u:Value}(r:RelV x u):absV u=some x:=by
 cases x with
 | non=>cases r;rfl
 | bl _=>cases r;rfl
 | int _=>obtain⟨t,rfl⟩:=r;rfl
 | str _=>obtain⟨t,rfl⟩:=r;rfl
 | byt _=>obtain⟨t,rfl⟩:=r;rfl
 | flt _=>obtain⟨t,rfl⟩:=r;rfl
 | ref _=>cases r;rfl
 | ty _=>cases r;rfl
theorem RelV.inj {x y:V}{u:Value}(r:RelV x u)(q:RelV y u):x=y:=Option.some.inj (r.abs.symm.trans q.abs)
theorem Vals.inj:∀ {xs ys:List V} {us:List Value},Vals xs us→Vals ys us→xs=ys
 | _,_,_,.nil,.nil=>rfl
 | _,_,_,.cons r t,.cons r' t'=>by rw[r.inj r',Vals.inj t t']
section
variable {X:Cx}{pins:List (Addr×Obj)}{σ:St}{H:Hp}{s:Shared}{a:Addr}{xs ys:List V}
theorem Inv.list (I:Inv X pins σ H s)(h:SqL X.K H a xs):∃its:List Value,Vals xs its∧PlainL s.heap a its.toArray∧xs.length≤sizeLine:=by
 rcases h with h | ⟨o,its,n,hk,hc,hd,hs,hz,r⟩
 ·obtain⟨z,its,n,r,e⟩:=h.ok I.hok
  exact⟨its,r,⟨_,n,e,rfl,rfl,rfl⟩,z⟩
 ·refine⟨its.toList,r,⟨o,n,I.kIn a o hk,hc,hd,by simpa using hs⟩,?_⟩
  have e:=r.length
  simp only[YAN]at e
  omega
theorem Inv.tuple (I:Inv X pins σ H s)(h:SqT X.K H a xs):∃its:List Value,Vals xs its∧IsTup s.heap a its.toArray∧xs.length≤sizeLine:=by
 rcases h with h | ⟨o,its,n,hk,hc,hs,hz,r⟩
 ·obtain⟨z,its,r,p⟩:=h.ok I.hok
  exact⟨its,r,p,z⟩
 ·refine⟨its.toList,r,⟨o,I.kIn a o hk,hc,n,by simpa using hs⟩,?_⟩
  have e:=r.length
  simp only[YAN]at e
  omega
theorem Inv.list_inj (I:Inv X pins σ H s)(h:SqL X.K H a xs)(h':SqL X.K H a ys):xs=ys:=by
 obtain⟨its,r,⟨o,n,e,_,_,d⟩,_⟩:=I.list h
 obtain⟨its',r',⟨o',n',e',_,_,d'⟩,_⟩:=I.list h'
 rw[e]at e';cases e'
 rw[d]at d'
 injection d' with d1 _
 have:its=its':=by simpa using congrArg Array.toList d1
 subst this
 exact r.inj r'
theorem Inv.tuple_inj (I:Inv X pins σ H s)(h:SqT X.K H a xs)(h':SqT X.K H a ys):xs=ys:=by
 obtain⟨its,r,⟨o,e,_,n,d⟩,_⟩:=I.tuple h
 obtain⟨its',r',⟨o',e',_,n',d'⟩,_⟩:=I.tuple h'
 rw[e]at e';cases e'
 rw[d]at d'
 injection d' with d1 _
 have:its=its':=by simpa using congrArg Array.toList d1
 subst this
 exact r.inj r'
end
noncomputable abbrev Cx.wish (X:Cx)(E:Value→Shared→Prop):Cx:={ X with xe:=E }
noncomputable abbrev Cx.nox (X:Cx):Cx:=X.wish fun _ _=>False
theorem Cx.Ok.wish {X:Cx}(ok:X.Ok)(E:Value→Shared→Prop):(X.wish E).Ok:=
 ⟨ok.mod,ok.kind,ok.glob,ok.blt,ok.above,ok.inj,ok.has,ok.cab,ok.hd,ok.frames,ok.stk,ok.exf,ok.bs,ok.bsz,ok.noex,ok.exfs,ok.funs,ok.frf⟩
theorem Cx.Ok.unwish {X:Cx}{E:Value→Shared→Prop}(ok:(X.wish E).Ok):X.Ok:=
 ⟨ok.mod,ok.kind,ok.glob,ok.blt,ok.above,ok.inj,ok.has,ok.cab,ok.hd,ok.frames,ok.stk,ok.exf,ok.bs,ok.bsz,ok.noex,ok.exfs,ok.funs,ok.frf⟩
section
variable {X:Cx}{pins:List (Addr×Obj)}{σ:St}{H:Hp}{s:Shared}{E:Value→Shared→Prop}
theorem Inv.wish (I:Inv X pins σ H s)(E:Value→Shared→Prop):Inv (X.wish E) pins σ H s:=⟨I.ok.wish E,I.os,I.bare,I.base,I.loc,I.cell,I.free,I.freeC,I.pin,I.hok,I.len⟩
theorem Inv.unwish (I:Inv (X.wish E) pins σ H s):Inv X pins σ H s:=⟨I.ok.unwish,I.os,I.bare,I.base,I.loc,I.cell,I.free,I.freeC,I.pin,I.hok,I.len⟩
theorem SP.unwish {D:Ends}{f:Flow}{s':Shared}(h:SP (X.wish E) pins D f s'):SP X pins D f s':=by
 cases f with
 | next=>obtain⟨σ',H',I,q⟩:=h;exact⟨σ',H',I.unwish,q⟩
 | brk=>obtain⟨σ',H',I,q⟩:=h;exact⟨σ',H',I.unwish,q⟩
 | cont=>obtain⟨σ',H',I,q⟩:=h;exact⟨σ',H',I.unwish,q⟩
 | ret u=>obtain⟨v,σ',H',I,r,q⟩:=h;exact⟨v,σ',H',I.unwish,r,q⟩
theorem PSs.nox {st:List Stmt}{t:TS}(h:PSs X.nox st t):PSs X st t:=fun pins s σ H D I hw=>
 YBF (h pins s σ H D (I.wish _) hw) (fun _ _ q=>q.unwish) fun _ _ z=>False.elim z
end
section
variable {X:Cx}{st:Stmt}{rest:List Stmt}{t u:TS}{e:Expr}{te:TE}{pos:Pos}
def tNext:TS:=fun D σ H=>D.nx σ H
def tSeq (t u:TS):TS:=fun D σ H=>t { D with nx:=u D } σ H
theorem Zav:PSs X [] tNext:=fun _ _ σ H _ I h=>YDM ⟨σ,H,I,h⟩
theorem Zac (h1:PS X st t)(h2:PSs X rest u):PSs X (st::rest) (tSeq t u):=by
 intro pins s σ H D I h
 refine wpAny_execs_cons (thn (h1 pins s σ H { D with nx:=u D } I h) fun f s1 q=>?_)
 cases f with
 | next=>
  obtain⟨σ',H',I',q⟩:=q
  exact h2 pins s1 σ' H' D I' q
 | ret v=>exact q
 | brk=>exact q
 | cont=>exact q
theorem Zaf (h1:PS X st t):PSs X [st] t:=by
 intro pins s σ H D I h
 refine wpAny_execs_cons (thn (h1 pins s σ H D I h) fun f s1 q=>?_)
 cases f with
 | next=>exact YDM q
 | ret v=>exact q
 | brk=>exact q
 | cont=>exact q
theorem Inv.quiet {pins:List (Addr×Obj)}{σ:St}{H:Hp}{s:Shared}(I:Inv X pins σ H s):interactive X.env=false:=by simp[interactive,I.ok.kind]
def ZlV (te:TE):TS:=fun D σ H=>te σ H fun _ H1=>D.nx σ H1
theorem ZaW (he:PE X e te)(hs:swapsWith e none pos.line X.env=pure false:=by rfl):PS X (.Expr e pos) (ZlV te):=by
 intro pins s σ H D I h
 exact wpAny_Expr_any (thn (he pins s σ H _ I h) fun v s1 ⟨x,H1,I1,r1,q1⟩=>⟨σ,H1,I1,q1⟩) I.quiet hs
def tRet (te:TE):TS:=fun D σ H=>te σ H D.rt
theorem Zaq (he:PE X e te):PS X (.Return (some e) pos) (tRet te):=by
 intro pins s σ H D I h
 exact wpAny_Return_some (thn (he pins s σ H _ I h) fun v s1 ⟨x,H1,I1,r1,q1⟩=>⟨x,σ,H1,I1,r1,q1⟩)
def tIfS (c:TT)(t u:TS):TS:=fun D σ H=>c σ H fun b H1=>if b=true then t D σ H1 else u D σ H1
theorem ZaR {c:Expr}{a b:List Stmt}{tc:TT}(hc:PT X c tc)(ha:PSs X a t)(hb:PSs X b u):PS X (.If c a b pos) (tIfS tc t u):=by
 intro pins s σ H D I h
 refine wpAny_If (thn (hc pins s σ H _ I h) fun d s1 ⟨H1,I1,q1⟩=>?_)
 cases d with
 | true=>exact ha pins s1 σ H1 D I1 q1
 | false=>exact hb pins s1 σ H1 D I1 q1
end
abbrev TG:=V→St→Hp→(St→Hp→Prop)→Prop
abbrev TGs:=List V→St→Hp→(St→Hp→Prop)→Prop
def PG (X:Cx)(target:Expr)(t:TG):Prop:=
 ∀(pins:List (Addr×Obj)) (s:Shared) (σ:St) (H:Hp) (v:V) (u:Value) (Q:St→Hp→Prop),Inv X pins σ H s→RelV v u→t v σ H Q →
  wpAny (model X.prog X.w) X.A (assign target X.env u) (fun _ s'=>∃σ' H',Inv X pins σ' H' s'∧Q σ' H') X.xe s
def PGs (X:Cx)(ts:List Expr)(t:TGs):Prop:=
 ∀(pins:List (Addr×Obj)) (s:Shared) (σ:St) (H:Hp) (vs:List V) (us:List Value) (Q:St→Hp→Prop),Inv X pins σ H s→Vals vs us→t vs σ H Q →
  wpAny (model X.prog X.w) X.A (assignInOrder ((assignEach ts X.env).map (·.2)) us) (fun _ s'=>∃σ' H',Inv X pins σ' H' s'∧Q σ' H') X.xe s
abbrev TIp:=V→V→Hp→VK→Prop
section
variable {X:Cx}{pos:Pos}
def ZcZ (i:Nat):TG:=fun v σ H Q=>Q (σ.set i (some v)) H
theorem ZaF {i:Nat}{x:Str}(hN:X.N.Nodup)(hi:X.N[i]?=some x)(hx:Loc X.env.scope x)(hf:X.fn x=true∨X.env.scope.names.lookup x=some .local:=by first | exact .inl rfl | exact .inr rfl | assumption):PG X (.Name x pos) (ZcZ i):=by
 intro pins s σ H v u Q I r h
 exact wpAny_assign_Name (Zc2 I hN hi hx r (fun s' I'=>⟨_,H,I',h⟩) hf)
def gNil:TGs:=fun vs σ H Q=>vs=[]∧Q σ H
def Znv (t:TG)(u:TGs):TGs:=fun vs σ H Q=>∃v r,vs=v::r∧t v σ H fun σ' H'=>u r σ' H' Q
theorem ZhT:PGs X [] gNil:=by
 intro pins s σ H vs us Q I r h
 obtain⟨e,h⟩:=h
 subst e
 cases r
 exact assignInOrder_nil ⟨σ,H,I,h⟩
theorem Zc5 {e:Expr}{es:List Expr}{t:TG}{u:TGs}(h1:PG X e t)(h2:PGs X es u)
  (hs:(assignEach (e::es) X.env).map (·.2)=assign e X.env::(assignEach es X.env).map (·.2):=by rfl):PGs X (e::es) (Znv t u):=by
 intro pins s σ H vs us Q I r h
 obtain⟨v,vr,e1,h⟩:=h
 subst e1
 cases r with
 | cons r rr=>
  rw[hs]
  refine assignInOrder_cons (thn (h1 pins s σ H _ _ _ I r h) fun _ s1 ⟨σ1,H1,I1,q1⟩=>?_)
  exact h2 pins s1 σ1 H1 _ _ Q I1 rr q1
def gTup (K:PySem.W.Frag)(n:Nat)(t:TGs):TG:=fun v σ H Q=>∃a xs,v=.ref a∧SqT K H a xs∧xs.length=n∧t xs σ H Q
theorem Zj0 {es:List Expr}{k:Nat}{t:TGs}{n:Nat}(hc:X.calm=true)(h:PGs X es t)
  (hn:(assignEach es X.env).length=n:=by rfl) (hst:(assignEach es X.env).findIdx? (·.1)=none:=by rfl):PG X (.Tuple es k pos) (gTup X.K n t):=by
 intro pins s σ H v u Q I r hw
 obtain⟨a,xs,e1,hq,hl,hw⟩:=hw
 subst e1
 cases r
 obtain⟨its,rv,ht,hz⟩:=I.tuple hq
 refine assign_Tuple_tuple (I.ok.hd hc) ht (by simp[hn,←hl,rv.length]) hst fun h' hx=>?_
 have I1:Inv X pins σ H { s with heap:=h' }:=I.kept (t':=s.toks) fun b o e=>hx b o (YAX (YAH e)) e
 exact h pins _ σ H xs _ Q I1 (by simpa using rv) hw
def tAsg (te:TE)(g:TG):TS:=fun D σ H=>te σ H fun x H1=>g x σ H1 D.nx
theorem Zau {i:Nat}{x:Str}{e:Expr}{te:TE}{pos':Pos}(hN:X.N.Nodup)(hi:X.N[i]?=some x)(hx:Loc X.env.scope x)(he:PE X e te)(hs:swapsWith e (some (.Name x pos')) pos.line X.env=pure false:=by rfl)(hf:X.fn x=true∨X.env.scope.names.lookup x=some .local:=by first | exact .inl rfl | exact .inr rfl | assumption):
  PS X (.Assign [.Name x pos'] e pos) (tAsg te (ZcZ i)):=by
 intro pins s σ H D I h
 refine wpAny_Assign_Name (thn (he pins s σ H _ I h) fun v s1 ⟨y,H1,I1,r1,q1⟩=>?_) hs
 exact Zc2 I1 hN hi hx r1 (fun s2 I2=>⟨_,H1,I2,q1⟩) hf
end
section
variable {X:Cx}{pos:Pos}
def ZjR (c:TT)(tb:TS):TS:=fun D σ H=>∃W:Nat→St→Hp→Prop,(∃m,W m σ H)∧∀m σ H,W m σ H →
 c σ H fun b H1=>if b=true then ∃N:St→Hp→Prop,(∀σ' H',N σ' H'→∃m',m'<m∧W m' σ' H')∧tb { D with nx:=N,ct:=N,bk:=D.nx } σ H1 else D.nx σ H1
end
structure It where
 go:Nat→Hp→Prop
 yld:Nat→Hp→V→Hp→Prop
 stop:Nat→Hp→Prop
def FpOk (X:Cx)(pins:List (Addr×Obj))(H:Hp)(b:Addr):Prop:=
 H b=none∧b≠X.env.locals∧b∉X.fs∧(b∈X.ex∨X.s₀.heap.objs.size≤b)∧(∀x c,X.env.cells.lookup x=some c→c≠b)∧∀p∈X.pn++pins,p.1≠b
theorem Inv.fpOk {X:Cx}{pins:List (Addr×Obj)}{σ:St}{H H':Hp}{s:Shared}{b:Addr}(I:Inv X pins σ H s)(hb:s.heap.objs.size≤b)(hn:H' b=none):FpOk X pins H' b:=by
 refine⟨hn,YCu (YAj I.lt hb),I.nofs hb,.inr (YAP I.sz hb),fun x c e z=>?_,fun p hp z=>?_⟩
 ·obtain⟨v,q⟩:=I.cell x c e
  exact absurd (YAj q.lt (by rw[z];exact hb)) (YAv _)
 ·exact absurd (YAj (YAH (I.pin p hp).1) (by rw[z];exact hb)) (YAv _)
structure Turn (P:Program)(w:World)(K:PySem.W.Frag)(tg:Expr)(J:It)(fp:List Addr)(it:Addr)(tn:Nat→Heap→Prop):Prop where
 mem:it∈fp
 obj:∀i h,tn i h→∀b∈fp,∃o,h.get? b=some o∧∀v,o.data≠.cell v
 keep:∀i h h',tn i h→(∀b∈fp,∀o,h.get? b=some o→h'.get? b=some o)→tn i h'
 item:∀(X:Cx),X.prog=P→X.w=w→X.K=K→X.calm=true→∀(i:Nat) (pins:List (Addr×Obj)) (s:Shared) (σ:St) (H:Hp) (E:Value→Shared→Prop),Inv X pins σ H s→(∀b∈fp,FpOk X pins H b)→tn i s.heap→J.go i H →
  wpAny (model P w) X.A (pyNext (.ref it)) (fun r s1=>∃u,r=some u ∧
   wpAny (model P w) X.A (letOwnedTupleGo tg (.ref it) u) (fun _ s2=>∃x H',Inv X pins σ H' s2∧RelV x u∧J.yld i H x H'∧tn (i+1) s2.heap∧∀b∈fp,H' b=none) E s1) E s
 done:∀(X:Cx),X.prog=P→X.w=w→X.K=K→X.calm=true→∀(i:Nat) (pins:List (Addr×Obj)) (s:Shared) (σ:St) (H:Hp) (E:Value→Shared→Prop),Inv X pins σ H s→(∀b∈fp,FpOk X pins H b)→tn i s.heap→J.stop i H →
  wpAny (model P w) X.A (pyNext (.ref it)) (fun r s1=>r=none∧Inv X pins σ H s1) E s
 self:∀(A:Around) (i:Nat) (s:Shared) (Q:Value→Shared→Prop) (E:Value→Shared→Prop),tn i s.heap→Q (.ref it) s→wpAny (model P w) A (pyIter (.ref it)) Q E s
abbrev TI:=St→Hp→(It→Hp→Prop)→Prop
def PIE (X:Cx)(pins:List (Addr×Obj))(σ:St)(tg:Expr)(R:It→Hp→Prop)(itv:Value)(s2:Shared):Prop:=
 ∃(it:Addr) (fp:List Addr) (tn:Nat→Heap→Prop) (J:It) (H':Hp),itv=.ref it∧Inv X pins σ H' s2∧Turn X.prog X.w X.K tg J fp it tn∧tn 0 s2.heap∧(∀b∈fp,FpOk X pins H' b)∧R J H'
def PI (X:Cx)(tg iter:Expr)(wi:TI):Prop:=
 ∀(pins:List (Addr×Obj)) (s:Shared) (σ:St) (H:Hp) (R:It→Hp→Prop),Inv X pins σ H s→wi σ H R →
  wpAny (model X.prog X.w) X.A (eval iter X.env) (fun v s1=>wpAny (model X.prog X.w) X.A (pyIter v) (PIE X pins σ tg R) X.xe s1) X.xe s
theorem Zln {M:Model}{A:Around}{E:Value→Shared→Prop}{s:Shared}{tg:Expr}{it:Addr}{u:Value}{o:Obj}{n:String}{vs:Array Value}{Q:Unit→Shared→Prop}(ho:s.heap.get? it=some o)(hc:o.cls=.type n)(hd:o.data=.fields vs)
    (hn:["enumerate","zip","dict_itemiterator","dict_reverseitemiterator","odict_iterator","itertools.zip_longest","itertools.pairwise"].contains n=false) (hQ:Q () s):wpAny M A (letOwnedTupleGo tg (.ref it) u) Q E s:=by
  unfold letOwnedTupleGo
  cases tg<;>first
    | exact YAD hQ
    | (cases u<;>first
        | exact YAD hQ
        | (refine YAA (wpAny_load ho ?_)
           rw[hc,hd]
           show wpAny M A (if (["enumerate","zip","dict_itemiterator","dict_reverseitemiterator","odict_iterator","itertools.zip_longest","itertools.pairwise"].contains n&&vs[0]? == some (rawInt _))=true then _ else _) Q E s
           rw[YAJ (by intro h;rw[hn,YBc]at h;cases h)]
           exact YAD hQ))
noncomputable def Itl (K:PySem.W.Frag)(a:Addr):It:=
 ⟨fun i H=>∃xs x,SqL K H a xs∧xs[i]?=some x,fun i H x H'=>H'=H∧∀xs,SqL K H a xs→xs[i]?=some x,fun i H=>∃xs,SqL K H a xs∧xs.length≤i⟩
noncomputable def Itt (K:PySem.W.Frag)(a:Addr):It:=
 ⟨fun i H=>∃xs x,SqT K H a xs∧xs[i]?=some x,fun i H x H'=>H'=H∧∀xs,SqT K H a xs→xs[i]?=some x,fun i H=>∃xs,SqT K H a xs∧xs.length≤i⟩
noncomputable def Itr (lo:Int)(n:Nat):It:=⟨fun i _=>i<n,fun i H x H'=>H'=H∧x=.int (lo+i),fun i _=>n≤i⟩
theorem Zhx {P:Program}{w:World}{K:PySem.W.Frag}{tg:Expr}(a it:Addr):Turn P w K tg (Itl K a) [it] it (fun i h=>h.IsListIter it a i) where
 mem:=by simp
 obj:=fun i h st b hb=>by
  have e:b=it:=by simpa using hb
  subst e
  obtain⟨o,e,c,d⟩:=st
  exact⟨o,e,fun v z=>by rw[d]at z;cases z⟩
 keep:=fun i h h' st k=>st.at fun o e=>k it (by simp) o e
 item:=by
  intro X hP hw hK hc i pins s σ H E I hf st hg
  subst hP hw hK
  obtain⟨xs,x,hq,hx⟩:=hg
  obtain⟨its,rv,p,hz⟩:=I.list hq
  obtain⟨u,hu,ru⟩:=rv.get hx
  obtain⟨f0,f1,f2,f3,f4,f5⟩:=hf it (by simp)
  refine wpAny_pyNext_list_item st p.isList (x:=u) (by simpa using hu) fun h' st' sb=>?_
  have I1:Inv X pins σ H { s with heap:=h' }:=I.turned (t':=s.toks) (fun b o hb e=>(sb.2 b hb).trans e) f0 f1 f3 f4 f5
  obtain⟨o,e,c,d⟩:=id st'
  exact⟨u,rfl,Zln (s:={ s with heap:=h' }) e c d (by decide) ⟨x,H,I1,ru,⟨rfl,fun ys hy=>by rw[I.list_inj hy hq];exact hx⟩,st',fun b hb=>(hf b hb).1⟩⟩
 done:=by
  intro X hP hw hK hc i pins s σ H E I hf st hg
  subst hP hw hK
  obtain⟨xs,hq,hx⟩:=hg
  obtain⟨its,rv,p,hz⟩:=I.list hq
  obtain⟨f0,f1,f2,f3,f4,f5⟩:=hf it (by simp)
  have hl:=rv.length
  exact wpAny_pyNext_list_end (I.ok.hd hc) st p.isList (by simp;omega) fun h' eb=>⟨rfl,I.turned (t':=s.toks) (fun b o hb e=>eb b o hb e) f0 f1 f3 f4 f5⟩
 self:=fun _ _ _ _ _ st h=>wpAny_pyIter_listiter st h
theorem ZgO {P:Program}{w:World}{K:PySem.W.Frag}{tg:Expr}(it:Addr)(lo:Int)(n:Nat):Turn P w K tg (Itr lo n) [it] it (fun i h=>IsRangeIter h it (lo+(i:Nat)*1) ((n:Int)-(i:Nat)) 1) where
 mem:=by simp
 obj:=fun i h st b hb=>by
  have e:b=it:=by simpa using hb
  subst e
  exact⟨_,st,fun v z=>by
   have z':Data.fields _=Data.cell v:=z
   cases z'⟩
 keep:=fun i h h' st k=>k it (by simp) _ st
 item:=by
  intro X hP hw hK hc i pins s σ H E I hf st hg
  subst hP hw hK
  obtain⟨f0,f1,f2,f3,f4,f5⟩:=hf it (by simp)
  have W:=Walks.range (prog:=X.prog) (w:=X.w) (I.ok.hd hc) it lo 1 n
  refine W.item i s _ _ hg st fun v h' tk hv st' kk=>?_
  obtain⟨t,rfl⟩:=hv
  have I1:Inv X pins σ H { s with heap:=h',toks:=tk }:=I.turned (fun b o hb e=>kk b o (by simpa using hb) e) f0 f1 f3 f4 f5
  refine⟨_,rfl,Zln (s:={ s with heap:=h',toks:=tk }) (n:="range_iterator") st' rfl rfl (by decide) ⟨.int (lo+i),H,I1,⟨t,?_⟩,⟨rfl,rfl⟩,st',fun b hb=>(hf b hb).1⟩⟩
  rw[Int.mul_one]
 done:=by
  intro X hP hw hK hc i pins s σ H E I hf st hg
  subst hP hw hK
  obtain⟨f0,f1,f2,f3,f4,f5⟩:=hf it (by simp)
  exact wpAny_pyNext_range_end (I.ok.hd hc) st (by have:n≤i:=hg;omega) fun h' eb=>⟨rfl,I.turned (t':=s.toks) (fun b o hb e=>eb b o hb e) f0 f1 f3 f4 f5⟩
 self:=fun _ _ _ _ _ st h=>wpAny_pyIter_rangeiter st h
section
variable {X:Cx}{tg:Expr}
def Zll (K:PySem.W.Frag)(tl:TE):TI:=fun σ H R=>tl σ H fun x H1=>∃a,x=.ref a∧(∃xs,SqL K H1 a xs)∧R (Itl K a) H1
theorem ZkV {l:Expr}{tl:TE}(hl:PE X l tl):PI X tg l (Zll X.K tl):=by
 intro pins s σ H R I h
 refine thn (hl pins s σ H _ I h) fun v s1 ⟨x,H1,I1,r1,q1⟩=>?_
 obtain⟨a,e,⟨xs,hq⟩,q⟩:=q1
 subst e
 cases r1
 obtain⟨its,rv,p,hz⟩:=I1.list hq
 refine YDA p.isList ?_
 refine⟨s1.heap.objs.size,[s1.heap.objs.size],_,_,H1,rfl,I1.kept (t':=s1.toks) fun b o e=>YAB _ e,Zhx a _,⟨_,YAG _ rfl,rfl,rfl⟩,fun b hb=>?_,q⟩
 have e:b=s1.heap.objs.size:=by simpa using hb
 subst e
 exact I1.fpOk (YAQ _) (I1.hok.fresh (YAQ _))
theorem Zgj {pins:List (Addr×Obj)}{σ:St}{H:Hp}{s:Shared}{R:It→Hp→Prop}{E:Value→Shared→Prop}{lo hi:Int}{t u v:Tok}{tk:Nat}(I:Inv X pins σ H s)(h1:-(2 ^ 62)≤lo)(h2:lo<2 ^ 62)(h3:-(2 ^ 62)≤hi)(h4:hi<2 ^ 62)
  (q:R (Itr lo (hi-lo).toNat) H):wpAny (model X.prog X.w) X.A (pyIter (.ref s.heap.objs.size)) (PIE X pins σ tg R) E { s with heap:=s.heap.push { cls:=.type "range",data:=.fields #[.int lo t,.int hi u,.int 1 v] },toks:=tk }:=by
 refine wpAny_pyIter_range (IsRange.new ..) (small_one h1 h2 h3 h4) ?_
 have I1:Inv X pins σ H { s with heap:=s.heap.push { cls:=.type "range",data:=.fields #[.int lo t,.int hi u,.int 1 v] },toks:=tk }:=I.kept fun b o e=>YAB _ e
 refine⟨(s.heap.push { cls:=.type "range",data:=.fields #[.int lo t,.int hi u,.int 1 v] }).objs.size,[(s.heap.push { cls:=.type "range",data:=.fields #[.int lo t,.int hi u,.int 1 v] }).objs.size],_,_,H,rfl,
  I1.kept (t':=tk) fun b o e=>YAB _ e,ZgO _ lo (hi-lo).toNat,?_,fun b hb=>?_,q⟩
 ·have e1:lo+((0:Nat):Int)*1=lo:=by simp
  have e2:(((hi-lo).toNat:Nat):Int)-((0:Nat):Int)=Builtin.Range.rangeSize lo hi 1:=by rw[rangeSize_one];split<;>omega
  show IsRangeIter _ _ (lo+((0:Nat):Int)*1) ((((hi-lo).toNat:Nat):Int)-((0:Nat):Int)) 1
  rw[e1,e2]
  exact YAG _ rfl
 ·have e:b=(s.heap.push { cls:=.type "range",data:=.fields #[.int lo t,.int hi u,.int 1 v] }).objs.size:=by simpa using hb
  subst e
  exact I1.fpOk (YAQ _) (I1.hok.fresh (YAQ _))
def Znr (ta:TA):TI:=fun σ H R=>ta σ H fun vs H1=>∃j:Int,vs=[.int j]∧-(2 ^ 62)≤j∧j<2 ^ 62∧R (Itr 0 j.toNat) H1
def Znq (ta:TA):TI:=fun σ H R=>ta σ H fun vs H1=>∃i j:Int,vs=[.int i,.int j]∧(-(2 ^ 62)≤i∧i<2 ^ 62∧-(2 ^ 62)≤j∧j<2 ^ 62)∧R (Itr i (j-i).toNat) H1
theorem ZbB {a:Expr} {ta:TA} {p pos:Pos} (hg:Gl X "range") (hm:X.mg "range"=none) (ha:PA X [a] ta) (hs:starEach [a] X.env=[(false,eval a X.env)]:=by rfl):PI X tg (.Call (.Name "range" p) [a] [] pos) (Znr ta):=by
 intro pins s σ H R I h
 refine Call_ (Zdu I hg hm boot_range (YCb (thn (ha pos pins s σ H _ I h) fun us s1 ⟨vs,H1,I1,r1,q1⟩=>?_) hs rfl))
 obtain⟨j,e,q1,q2,q⟩:=q1
 subst e
 cases r1 with
 | cons r rr=>
  cases rr
  obtain⟨t,rfl⟩:=r
  exact call_range_1 (Zgj I1 (by omega) (by omega) q1 q2 (by simpa using q))
theorem ZhS {a b:Expr} {ta:TA} {p pos:Pos} (hg:Gl X "range") (hm:X.mg "range"=none) (ha:PA X [a,b] ta) (hs:starEach [a,b] X.env=[(false,eval a X.env),(false,eval b X.env)]:=by rfl) (hs2:starEach [b] X.env=[(false,eval b X.env)]:=by rfl):
  PI X tg (.Call (.Name "range" p) [a,b] [] pos) (Znq ta):=by
 intro pins s σ H R I h
 refine Call_ (Zdu I hg hm boot_range (YCb (thn (ha pos pins s σ H _ I h) fun us s1 ⟨vs,H1,I1,r1,q1⟩=>?_) (by rw[hs,hs2]) (by rw[hs2];rfl)))
 obtain⟨i,j,e,⟨q1,q2,q3,q4⟩,q⟩:=q1
 subst e
 cases r1 with
 | cons r rr=>
  cases rr with
  | cons r' rr=>
   cases rr
   obtain⟨t,rfl⟩:=r
   obtain⟨t',rfl⟩:=r'
   exact call_range_2 (Zgj I1 q1 q2 q3 q4 q)
def tFor (wi:TI)(g:TG)(tb:TS):TS:=fun D σ H=>wi σ H fun J H1=>∃W:Nat→Nat→St→Hp→Prop,(∃m,W 0 m σ H1)∧∀i m σ H,W i m σ H →
 (J.stop i H∧D.nx σ H)∨(J.go i H∧∃N:St→Hp→Prop,(∀σ' H',N σ' H'→∃m',m'<m∧W (i+1) m' σ' H')∧∀x H',J.yld i H x H'→g x σ H' fun σ2 H2=>tb { D with nx:=N,ct:=N,bk:=D.nx } σ2 H2)
noncomputable def ZeS (fp:List Addr)(h:Heap):List (Addr×Obj):=fp.filterMap fun b=>(h.get? b).map fun o=>(b,o)
theorem Zb3 {fp:List Addr}{h:Heap}{b:Addr}{o:Obj}(hb:b∈fp)(e:h.get? b=some o):(b,o)∈ZeS fp h:=List.mem_filterMap.mpr ⟨b,hb,by rw[e];rfl⟩
theorem Zh1 {fp:List Addr}{h:Heap}{p:Addr×Obj}(hp:p∈ZeS fp h):p.1∈fp∧h.get? p.1=some p.2:=by
 obtain⟨b,hb,e⟩:=List.mem_filterMap.mp hp
 cases q:h.get? b with
 | none=>rw[q]at e;cases e
 | some o=>
  rw[q]at e
  have e':(b,o)=p:=Option.some.inj e
  subst e'
  exact⟨hb,q⟩
theorem Inv.pinned {pins:List (Addr×Obj)}{σ:St}{H:Hp}{s:Shared}{fp:List Addr}(I:Inv X pins σ H s)(hf:∀b∈fp,FpOk X pins H b)(ho:∀b∈fp,∃o,s.heap.get? b=some o∧∀v,o.data≠.cell v):Inv X (pins++ZeS fp s.heap) σ H s:=
 I.pins_of fun p hp=>(YAe.mp hp).elim (fun z=>I.pin p (YAy _ z)) fun z=>by
  obtain⟨hb,e⟩:=Zh1 z
  obtain⟨f0,f1,f2,_⟩:=hf p.1 hb
  obtain⟨o,e',d⟩:=ho p.1 hb
  rw[e]at e';cases e'
  exact⟨e,f0,f1,f2,d⟩
theorem Inv.unpinned {pins pl:List (Addr×Obj)}{σ:St}{H:Hp}{s:Shared}(I:Inv X (pins++pl) σ H s):Inv X pins σ H s:=I.pins_of fun p hp=>I.pin p (YAy _ (List.mem_append_left _ hp))
theorem ZbA {iter:Expr}{body:List Stmt}{wi:TI}{g:TG}{tb:TS}{pos:Pos}(hp:PassesOwn (model X.prog X.w) X.A X.env X.xe)(hc:X.calm=true)(hi:PI X tg iter wi)(hg:PG X tg g)(hb:PSs X body tb)
  (hs:∀x,foldedSetIterable iter X.env x=pure x:=by intro _;rfl):PS X (.For tg iter body [] pos) (tFor wi g tb):=by
 intro pins s σ H D I h
 refine wpAny_For (thn (hi pins s σ H _ I h) fun v s1 h1=>thn h1 fun itv s2 h2=>?_) hs
 obtain⟨it,fp,tn,J,H2,e,I2,T,st2,f2,W,⟨m0,w0⟩,turn⟩:=h2
 subst e
 have stat:∀ {H':Hp},(∀b∈fp,H' b=none)→∀b∈fp,FpOk X pins H' b:=fun hn b hb=>⟨hn b hb,(f2 b hb).2⟩
 refine codeAny_forLoop_any (fun n s'=>∃i σ' H',Inv X pins σ' H' s'∧tn i s'.heap∧(∀b∈fp,H' b=none)∧W i n σ' H') ?_ m0 ⟨0,σ,H2,I2,st2,fun b hb=>(f2 b hb).1,w0⟩
 rintro n s3 ⟨i,σ3,H3,I3,st3,fr3,w3⟩
 rcases turn i n σ3 H3 w3 with⟨stop,qn⟩|⟨go,N,hN,step⟩
 ·refine YDL hp (thn (T.done X rfl rfl rfl hc i pins s3 σ3 H3 X.xe I3 (stat fr3) st3 stop) fun r s4 ⟨hr,I4⟩=>?_)
  subst hr
  exact YDM ⟨σ3,H3,I4,qn⟩
 ·refine YDL hp (thn (T.item X rfl rfl rfl hc i pins s3 σ3 H3 X.xe I3 (stat fr3) st3 go) fun r s4 ⟨u,hr,h4⟩=>?_)
  subst hr
  refine YDL hp (thn h4 fun _ s5 ⟨x,H5,I5,r5,y5,st5,fr5⟩=>?_)
  have I5':=I5.pinned (stat fr5) (T.obj _ _ st5)
  refine YDL hp (thn (hg _ s5 σ3 H5 x u _ I5' r5 (step x H5 y5)) fun _ s6 ⟨σ6,H6,I6,q6⟩=>?_)
  refine YDL hp (thn (hb _ s6 σ6 H6 _ I6 q6) fun f s7 q7=>?_)
  have again:∀ {σ7:St} {H7:Hp},Inv X (pins++ZeS fp s5.heap) σ7 H7 s7→N σ7 H7→∃m,m<n∧∃i σ' H',Inv X pins σ' H' s7∧tn i s7.heap∧(∀b∈fp,H' b=none)∧W i m σ' H':=fun {σ7 H7} I7 n7=>by
   obtain⟨m',hm,w7⟩:=hN σ7 H7 n7
   refine⟨m',hm,i+1,σ7,H7,I7.unpinned,T.keep _ _ _ st5 fun b hb o e=>(I7.pin (b,o) (YAy _ (YAy _ (Zb3 hb e)))).1,fun b hb=>?_,w7⟩
   obtain⟨o,e,d⟩:=T.obj _ _ st5 b hb
   exact(I7.pin (b,o) (YAy _ (YAy _ (Zb3 hb e)))).2.1
  cases f with
  | next=>obtain⟨σ7,H7,I7,n7⟩:=q7;exact again I7 n7
  | cont=>obtain⟨σ7,H7,I7,n7⟩:=q7;exact again I7 n7
  | brk=>obtain⟨σ7,H7,I7,q7⟩:=q7;exact⟨σ7,H7,I7.unpinned,q7⟩
  | ret v=>obtain⟨x7,σ7,H7,I7,r7,q7⟩:=q7;exact⟨x7,σ7,H7,I7.unpinned,r7,q7⟩
end
theorem Zjz {K:PySem.W.Frag}{a:Addr}{xs:List V}{g:TG}{tb:TS}{D:Ends}{σ:St}{H:Hp}(Pv:Nat→St→Hp→Prop)(h0:Pv 0 σ H)(hl:∀i σ H,i≤xs.length→Pv i σ H→SqL K H a xs)
  (hs:∀i x σ H,xs[i]?=some x→Pv i σ H→g x σ H fun σ2 H2=>tb { D with nx:=Pv (i+1),ct:=Pv (i+1),bk:=D.nx } σ2 H2) (hd:∀σ H,Pv xs.length σ H→D.nx σ H):
  ∃W:Nat→Nat→St→Hp→Prop,(∃m,W 0 m σ H)∧∀i m σ H,W i m σ H →
   ((Itl K a).stop i H∧D.nx σ H)∨((Itl K a).go i H∧∃N:St→Hp→Prop,(∀σ' H',N σ' H'→∃m',m'<m∧W (i+1) m' σ' H')∧∀x H',(Itl K a).yld i H x H'→g x σ H' fun σ2 H2=>tb { D with nx:=N,ct:=N,bk:=D.nx } σ2 H2):=by
 refine⟨fun i m σ H=>m=xs.length-i∧i≤xs.length∧Pv i σ H,⟨xs.length,by simp,YAz _,h0⟩,?_⟩
 rintro i m σ H ⟨rfl,hi,p⟩
 have q:=hl i σ H hi p
 by_cases hlt:i<xs.length
 ·refine .inr ⟨⟨xs,xs[i],q,by simp[hlt]⟩,Pv (i+1),fun σ' H' p'=>⟨xs.length-(i+1),by omega,rfl,hlt,p'⟩,fun x H' y=>?_⟩
  obtain⟨e,y⟩:=y
  subst e
  exact hs i x σ _ (y xs q) p
 ·have e:i=xs.length:=by omega
  subst e
  exact .inl ⟨⟨xs,q,YAQ _⟩,hd σ H p⟩
theorem Zis {lo:Int}{n:Nat}{g:TG}{tb:TS}{D:Ends}{σ:St}{H:Hp}(Pv:Nat→St→Hp→Prop)(h0:Pv 0 σ H)
  (hs:∀i σ H,i<n→Pv i σ H→g (.int (lo+i)) σ H fun σ2 H2=>tb { D with nx:=Pv (i+1),ct:=Pv (i+1),bk:=D.nx } σ2 H2) (hd:∀σ H,Pv n σ H→D.nx σ H):
  ∃W:Nat→Nat→St→Hp→Prop,(∃m,W 0 m σ H)∧∀i m σ H,W i m σ H →
   ((Itr lo n).stop i H∧D.nx σ H)∨((Itr lo n).go i H∧∃N:St→Hp→Prop,(∀σ' H',N σ' H'→∃m',m'<m∧W (i+1) m' σ' H')∧∀x H',(Itr lo n).yld i H x H'→g x σ H' fun σ2 H2=>tb { D with nx:=N,ct:=N,bk:=D.nx } σ2 H2):=by
 refine⟨fun i m σ H=>m=n-i∧i≤n∧Pv i σ H,⟨n,by simp,YAz _,h0⟩,?_⟩
 rintro i m σ H ⟨rfl,hi,p⟩
 by_cases hlt:i<n
 ·refine .inr ⟨hlt,Pv (i+1),fun σ' H' p'=>⟨n-(i+1),by omega,rfl,hlt,p'⟩,fun x H' y=>?_⟩
  obtain⟨e,y⟩:=y
  subst e y
  exact hs i σ _ hlt p
 ·have e:i=n:=by omega
  subst e
  exact .inl ⟨YAQ _,hd σ H p⟩
abbrev R2:=V→V→Hp→VK→Prop
def OpR (X:Cx)(f:Value→Value→Sem Value)(r:R2):Prop:=
 ∀(pins:List (Addr×Obj)) (s:Shared) (σ:St) (H:Hp) (x y:V) (v u:Value) (Q:VK),Inv X pins σ H s→RelV x v→RelV y u→r x y H Q →
  wpAny (model X.prog X.w) X.A (f v u) (EP X pins σ Q) X.xe s
def UnR (X:Cx)(f:Value→Sem Value)(r:V→Hp→VK→Prop):Prop:=
 ∀(pins:List (Addr×Obj)) (s:Shared) (σ:St) (H:Hp) (x:V) (v:Value) (Q:VK),Inv X pins σ H s→RelV x v→r x H Q →
  wpAny (model X.prog X.w) X.A (f v) (EP X pins σ Q) X.xe s
def ZcD (X:Cx)(f:Value)(r:List V→Hp→VK→Prop):Prop:=
 ∀(pins:List (Addr×Obj)) (s:Shared) (σ:St) (H:Hp) (xs:List V) (us:List Value) (Q:VK),Inv X pins σ H s→Vals xs us→r xs H Q →
  wpAny (model X.prog X.w) X.A (call f us) (EP X pins σ Q) X.xe s
def TruR (X:Cx)(r:V→Hp→(Bool→Hp→Prop)→Prop):Prop:=
 ∀(pins:List (Addr×Obj)) (s:Shared) (σ:St) (H:Hp) (x:V) (v:Value) (Q:Bool→Hp→Prop),Inv X pins σ H s→RelV x v→r x H Q →
  wpAny (model X.prog X.w) X.A (truthy v) (TP X pins σ Q) X.xe s
def tOp (r:R2)(ta tb:TE):TE:=fun σ H Q=>ta σ H fun x H1=>tb σ H1 fun y H2=>r x y H2 Q
def tUn (r:V→Hp→VK→Prop)(ta:TE):TE:=fun σ H Q=>ta σ H fun x H1=>r x H1 Q
def rI (C:Int→Int→Prop)(g:Int→Int→V):R2:=fun x y H Q=>∃i j,x=.int i∧y=.int j∧C i j∧Q (g i j) H
def rI0 (g:Int→Int→V):R2:=fun x y H Q=>∃i j,x=.int i∧y=.int j∧Q (g i j) H
def rU (g:Int→V):V→Hp→VK→Prop:=fun x H Q=>∃i,x=.int i∧Q (g i) H
section
variable {X:Cx}{a b c:Expr}{ta tb tc:TE}{pos:Pos}
theorem binT (ha:PE X a ta)(hb:PE X b tb){pins:List (Addr×Obj)}{s:Shared}{σ:St}{H:Hp}{R:V→V→Hp→Prop}(I:Inv X pins σ H s)
  (h:ta σ H fun x H1=>tb σ H1 fun y H2=>R x y H2) {Q:Value→Shared→Prop} {f:Value→Value→Sem Value}
  (hf:∀v u s2 x y H2,Inv X pins σ H2 s2→RelV x v→RelV y u→R x y H2→wpAny (model X.prog X.w) X.A (f v u) Q X.xe s2):
  wpAny (model X.prog X.w) X.A (eval a X.env) (fun v s₁=>wpAny (model X.prog X.w) X.A (eval b X.env) (fun u s₂=>wpAny (model X.prog X.w) X.A (f v u) Q X.xe s₂) X.xe s₁) X.xe s:=by
 refine thn (ha pins s σ H _ I h) fun v s1 ⟨x,H1,I1,r1,q1⟩=>?_
 refine thn (hb pins s1 σ H1 _ I1 q1) fun u s2 ⟨y,H2,I2,r2,q2⟩=>?_
 exact hf v u s2 x y H2 I2 r1 r2 q2
theorem Zat {op:Operator}{r:R2}(ho:OpR X (binaryOp op) r)(ha:PE X a ta)(hb:PE X b tb):PE X (.BinOp a op b pos) (tOp r ta tb):=by
 intro pins s σ H Q I h
 exact wpAny_BinOp (binT ha hb I h fun v u s2 x y H2 I2 rx ry q=>ho pins s2 σ H2 x y v u Q I2 rx ry q)
theorem ZhU {op:UnaryOp}{r:V→Hp→VK→Prop}(ho:UnR X (unaryOp op) r)(ha:PE X a ta):PE X (.UnaryOp op a pos) (tUn r ta):=by
 intro pins s σ H Q I h
 exact UnaryOp_ (thn (ha pins s σ H _ I h) fun v s1 ⟨x,H1,I1,r1,q1⟩=>ho pins s1 σ H1 x v Q I1 r1 q1)
theorem opI {f:Value→Value→Sem Value}{C:Int→Int→Prop}{g:Int→Int→Int}
  (rule:∀(i j:Int) (t u:Tok) (s:Shared) (Q:Value→Shared→Prop) (E:Value→Shared→Prop),C i j→Q (.int (g i j) s.toks) { s with toks:=s.toks+1 }→wpAny (model X.prog X.w) X.A (f (.int i t) (.int j u)) Q E s):
  OpR X f (rI C fun i j=>.int (g i j)):=by
 intro pins s σ H x y v u Q I rx ry h
 obtain⟨i,j,rfl,rfl,hc,q⟩:=h
 obtain⟨t,rfl⟩:=rx
 obtain⟨t',rfl⟩:=ry
 exact rule i j t t' s _ _ hc ⟨.int (g i j),H,I.tok _,⟨_,rfl⟩,q⟩
theorem opI0 {f:Value→Value→Sem Value}{g:Int→Int→Int}
  (rule:∀(i j:Int) (t u:Tok) (s:Shared) (Q:Value→Shared→Prop) (E:Value→Shared→Prop),Q (.int (g i j) s.toks) { s with toks:=s.toks+1 }→wpAny (model X.prog X.w) X.A (f (.int i t) (.int j u)) Q E s):
  OpR X f (rI0 fun i j=>.int (g i j)):=by
 intro pins s σ H x y v u Q I rx ry h
 obtain⟨i,j,rfl,rfl,q⟩:=h
 obtain⟨t,rfl⟩:=rx
 obtain⟨t',rfl⟩:=ry
 exact rule i j t t' s _ _ ⟨.int (g i j),H,I.tok _,⟨_,rfl⟩,q⟩
theorem opB0 {f:Value→Value→Sem Value}{g:Int→Int→Bool}
  (rule:∀(i j:Int) (t u:Tok) (s:Shared) (Q:Value→Shared→Prop) (E:Value→Shared→Prop),Q (.bool (g i j)) s→wpAny (model X.prog X.w) X.A (f (.int i t) (.int j u)) Q E s):
  OpR X f (rI0 fun i j=>.bl (g i j)):=by
 intro pins s σ H x y v u Q I rx ry h
 obtain⟨i,j,rfl,rfl,q⟩:=h
 obtain⟨t,rfl⟩:=rx
 obtain⟨t',rfl⟩:=ry
 exact rule i j t t' s _ _ ⟨.bl (g i j),H,I,rfl,q⟩
def CDiv (i j:Int):Prop:=0<j∧j<1073741824
def CMul (i j:Int):Prop:=(-(2 ^ 64)<i∧i<2 ^ 64)∨(-(2 ^ 64)<j∧j<2 ^ 64)
theorem CMul.ok {i j:Int}(h:CMul i j):IntMulOk i j:=by
 rcases h with⟨h1,h2⟩|⟨h1,h2⟩
 ·exact .of_left (intBits_le_64 h1 h2)
 ·exact .of_right (intBits_le_64 h1 h2)
theorem Za6:OpR X (binaryOp .Add) (rI0 fun i j=>.int (i+j)):=opI0 fun _ _ _ _ _ _ _ q=>add_int q
theorem Zgr:OpR X (binaryOp .Sub) (rI0 fun i j=>.int (i-j)):=opI0 fun _ _ _ _ _ _ _ q=>sub_int q
theorem Zdo:OpR X (binaryOp .Mult) (rI CMul fun i j=>.int (i*j)):=opI fun _ _ _ _ _ _ _ hc q=>mul_int q hc.ok
theorem Za1:OpR X (binaryOp .FloorDiv) (rI CDiv fun i j=>.int (i/j)):=opI fun i j _ _ _ _ _ hc q=>by
 have h1:(0:Int)<j:=hc.1
 have h2:j<1073741824:=hc.2
 exact floordiv_int (by omega) (by rw[Int.fdiv_eq_ediv_of_nonneg i (by omega)];exact q) (.inl (PyProof.noPylong_small (by omega)))
theorem ZaQ:OpR X (binaryOp .Mod) (rI (fun _ j=>0<j) fun i j=>.int (i % j)):=opI fun i j _ _ _ _ _ hc q=>by
 have h1:(0:Int)<j:=hc
 exact mod_int' (by omega) (by rw[Int.fmod_eq_emod_of_nonneg i (by omega)];exact q)
theorem unI {f:Value→Sem Value}{g:Int→Int}
  (rule:∀(i:Int) (t:Tok) (s:Shared) (Q:Value→Shared→Prop) (E:Value→Shared→Prop),Q (.int (g i) s.toks) { s with toks:=s.toks+1 }→wpAny (model X.prog X.w) X.A (f (.int i t)) Q E s):
  UnR X f (rU fun i=>.int (g i)):=by
 intro pins s σ H x v Q I rx h
 obtain⟨i,rfl,q⟩:=h
 obtain⟨t,rfl⟩:=rx
 exact rule i t s _ _ ⟨.int (g i),H,I.tok _,⟨_,rfl⟩,q⟩
theorem ZeI:UnR X (unaryOp .USub) (rU fun i=>.int (-i)):=unI fun _ _ _ _ _ q=>neg_int q
end
noncomputable def scal:V→V→Bool
 | .non,.non=>true | .non,.int _=>true | .int _,.non=>true | .non,.bl _=>true | .bl _,.non=>true | .non,.str _=>true | .str _,.non=>true
 | .int _,.int _=>true | .bl _,.bl _=>true | .str _,.str _=>true | .byt _,.byt _=>true
 | .int _,.str _=>true | .str _,.int _=>true | .bl _,.str _=>true | .str _,.bl _=>true
 | _,_=>false
def rEq:R2:=fun x y H Q=>scal x y=true∧Q (.bl (decide (x=y))) H
def rNe:R2:=fun x y H Q=>scal x y=true∧Q (.bl (!decide (x=y))) H
theorem Zix {i j:Int}:decide (V.int i=V.int j)=(i == j):=by
 rw[YBQ]
 simp
theorem Zkj {i j:Bool}:decide (V.bl i=V.bl j)=(i == j):=by
 rw[YBQ]
 simp
theorem Ziw {i j:Str}:decide (V.str i=V.str j)=(i == j):=by
 rw[YBQ]
 simp
theorem Ziy {i j:Array UInt8}:decide (V.byt i=V.byt j)=(i.toList == j.toList):=by
 rw[YBQ]
 cases i
 cases j
 simp
section
variable {X:Cx}{a b c:Expr}{ta tb tc:TE}{pos:Pos}
theorem ZaG {pins:List (Addr×Obj)}{σ:St}{H:Hp}{s:Shared}{Q:VK}{k k':Bool}(I:Inv X pins σ H s)(q:Q (.bl k) H)(e:k=k'):EP X pins σ Q (.bool k') s:=by
 subst e
 exact⟨.bl k,H,I,rfl,q⟩
theorem Zo4:OpR X (compareOp .Eq) rEq:=by
 intro pins s σ H x y v u Q I rx ry h
 obtain⟨hs,q⟩:=h
 cases x with
 | non=>
  cases rx
  cases y with
  | non=>cases ry;exact PySem.EqNone.eq_none_none (ZaG I q (by simp))
  | bl j=>cases ry;exact PySem.EqNone.eq_none_bool (ZaG I q (by simp))
  | int j=>obtain⟨t',rfl⟩:=ry;exact PySem.EqNone.eq_none_int (ZaG I q (by simp))
  | str j=>obtain⟨t',rfl⟩:=ry;exact PySem.EqNone.eq_none_str (ZaG I q (by simp))
  | _=>exact absurd (show false=true from hs) YAC
 | bl i=>
  cases rx
  cases y with
  | non=>cases ry;exact PySem.EqNone.eq_bool_none (ZaG I q (by simp))
  | bl j=>cases ry;exact eq_bool (ZaG I q Zkj)
  | str j=>obtain⟨t',rfl⟩:=ry;exact PySem.EqMixed.eq_bool_str (ZaG I q (by simp))
  | _=>exact absurd (show false=true from hs) YAC
 | int i=>
  obtain⟨t,rfl⟩:=rx
  cases y with
  | non=>cases ry;exact PySem.EqNone.eq_int_none (ZaG I q (by simp))
  | int j=>obtain⟨t',rfl⟩:=ry;exact eq_int (ZaG I q Zix)
  | str j=>obtain⟨t',rfl⟩:=ry;exact PySem.EqMixed.eq_int_str (ZaG I q (by simp))
  | _=>exact absurd (show false=true from hs) YAC
 | str i=>
  obtain⟨t,rfl⟩:=rx
  cases y with
  | non=>cases ry;exact PySem.EqNone.eq_str_none (ZaG I q (by simp))
  | bl j=>cases ry;exact PySem.EqMixed.eq_str_bool (ZaG I q (by simp))
  | int j=>obtain⟨t',rfl⟩:=ry;exact PySem.EqMixed.eq_str_int (ZaG I q (by simp))
  | str j=>obtain⟨t',rfl⟩:=ry;exact eq_str (ZaG I q Ziw)
  | _=>exact absurd (show false=true from hs) YAC
 | byt i=>
  obtain⟨t,rfl⟩:=rx
  cases y with
  | byt j=>obtain⟨t',rfl⟩:=ry;exact PySem.W.eq_bytes (ZaG I q Ziy)
  | _=>exact absurd (show false=true from hs) YAC
 | _=>cases y<;>exact absurd (show false=true from hs) YAC
theorem Zo1:OpR X (compareOp .NotEq) rNe:=by
 intro pins s σ H x y v u Q I rx ry h
 obtain⟨hs,q⟩:=h
 cases x with
 | non=>
  cases rx
  cases y with
  | non=>cases ry;exact PySem.EqNone.ne_none_none (ZaG I q (by simp))
  | bl j=>cases ry;exact PySem.EqNone.ne_none_bool (ZaG I q (by simp))
  | int j=>obtain⟨t',rfl⟩:=ry;exact PySem.EqNone.ne_none_int (ZaG I q (by simp))
  | str j=>obtain⟨t',rfl⟩:=ry;exact PySem.EqNone.ne_none_str (ZaG I q (by simp))
  | _=>exact absurd (show false=true from hs) YAC
 | bl i=>
  cases rx
  cases y with
  | non=>cases ry;exact PySem.EqNone.ne_bool_none (ZaG I q (by simp))
  | bl j=>cases ry;exact ne_bool (ZaG I q (congrArg not Zkj))
  | str j=>obtain⟨t',rfl⟩:=ry;exact PySem.EqMixed.ne_bool_str (ZaG I q (by simp))
  | _=>exact absurd (show false=true from hs) YAC
 | int i=>
  obtain⟨t,rfl⟩:=rx
  cases y with
  | non=>cases ry;exact PySem.EqNone.ne_int_none (ZaG I q (by simp))
  | int j=>obtain⟨t',rfl⟩:=ry;exact ne_int (ZaG I q (congrArg not Zix))
  | str j=>obtain⟨t',rfl⟩:=ry;exact PySem.EqMixed.ne_int_str (ZaG I q (by simp))
  | _=>exact absurd (show false=true from hs) YAC
 | str i=>
  obtain⟨t,rfl⟩:=rx
  cases y with
  | non=>cases ry;exact PySem.EqNone.ne_str_none (ZaG I q (by simp))
  | bl j=>cases ry;exact PySem.EqMixed.ne_str_bool (ZaG I q (by simp))
  | int j=>obtain⟨t',rfl⟩:=ry;exact PySem.EqMixed.ne_str_int (ZaG I q (by simp))
  | str j=>obtain⟨t',rfl⟩:=ry;exact ne_str (ZaG I q (congrArg not Ziw))
  | _=>exact absurd (show false=true from hs) YAC
 | byt i=>
  obtain⟨t,rfl⟩:=rx
  cases y with
  | byt j=>obtain⟨t',rfl⟩:=ry;exact PySem.W.ne_bytes (ZaG I q (congrArg not Ziy))
  | _=>exact absurd (show false=true from hs) YAC
 | _=>cases y<;>exact absurd (show false=true from hs) YAC
theorem Zmu:OpR X (compareOp .Lt) (rI0 fun i j=>.bl (decide (i<j))):=opB0 fun _ _ _ _ _ _ _ q=>lt_int q
theorem Zo2:OpR X (compareOp .LtE) (rI0 fun i j=>.bl (decide (i≤j))):=opB0 fun _ _ _ _ _ _ _ q=>le_int q
theorem Zje:OpR X (compareOp .Gt) (rI0 fun i j=>.bl (decide (j<i))):=opB0 fun _ _ _ _ _ _ _ q=>gt_int q
theorem Zo3:OpR X (compareOp .GtE) (rI0 fun i j=>.bl (decide (j≤i))):=opB0 fun _ _ _ _ _ _ _ q=>ge_int q
theorem ZeX:OpR X (compareOp .In) (fun x y H Q=>∃i j,x=.str i∧y=.str j∧Q (.bl (!(Builtin.Str.occurrences j i 0 j.length 1).isEmpty)) H):=by
 intro pins s σ H x y v u Q I rx ry h
 obtain⟨i,j,rfl,rfl,q⟩:=h
 obtain⟨t,rfl⟩:=rx
 obtain⟨t',rfl⟩:=ry
 exact in_str (ZaG I q rfl)
theorem Zgs:OpR X (compareOp .Is) (fun x y H Q=>y=.non∧Q (.bl (decide (x=.non))) H):=by
 intro pins s σ H x y v u Q I rx ry h
 obtain⟨rfl,q⟩:=h
 cases ry
 refine is_none_gen (ZaG I q ?_)
 cases x<;>first
  | (cases rx;rfl)
  | (obtain⟨t,rfl⟩:=rx;rfl)
theorem ZcU:OpR X (compareOp .NotIn) (fun x y H Q=>∃i j,x=.str i∧y=.str j∧Q (.bl (!(!(Builtin.Str.occurrences j i 0 j.length 1).isEmpty))) H):=by
 intro pins s σ H x y v u Q I rx ry h
 obtain⟨i,j,rfl,rfl,q⟩:=h
 obtain⟨t,rfl⟩:=rx
 obtain⟨t',rfl⟩:=ry
 exact notIn_str (ZaG I q rfl)
theorem Zax (b:Expr){op:CmpOp}(h:op≠.In:=by decide)(h2:op≠.NotIn:=by decide):behindInMarks op b=false:=by
 have e1:(op == CmpOp.In)=false:=by cases op<;>first | rfl | exact absurd rfl h
 have e2:(op == CmpOp.NotIn)=false:=by cases op<;>first | rfl | exact absurd rfl h2
 cases b<;>simp[behindInMarks,e1,e2]
theorem ZaX {op:CmpOp}{r:R2}(ho:OpR X (compareOp op) r)(ha:PE X a ta)(hb:PE X b tb)(hm:behindInMarks op b=false):PE X (.Compare a [op] [b] pos) (tOp r ta tb):=by
 intro pins s σ H Q I h
 exact wpAny_Compare1 (binT ha hb I h fun v u s2 x y H2 I2 rx ry q=>ho pins s2 σ H2 x y v u Q I2 rx ry q) hm
def ZlP (t:TE):TT:=fun σ H Q=>t σ H fun x H'=>∃k,x=.bl k∧Q k H'
theorem Zaw {op:CmpOp}{r:R2}(ho:OpR X (compareOp op) r)(ha:PE X a ta)(hb:PE X b tb)(hm:behindInMarks op b=false):PT X (.Compare a [op] [b] pos) (ZlP (tOp r ta tb)):=by
 intro pins s σ H Q I h
 refine wpAny_isTrue_Compare1 (thn (ha pins s σ H _ I h) fun v s1 ⟨x,H1,I1,r1,q1⟩=>thn (hb pins s1 σ H1 _ I1 q1) fun u s2 ⟨y,H2,I2,r2,q2⟩=>
  thn (ho pins s2 σ H2 x y v u _ I2 r1 r2 q2) fun c s3 ⟨z,H3,I3,r3,k,e,q3⟩=>?_) hm
 subst e
 cases r3
 exact YCH ⟨H3,I3,q3⟩
def TruV (K:PySem.W.Frag)(x:V)(H:Hp)(k:Bool):Prop:=
 match x with
 | .non=>k=false
 | .bl b=>k=b
 | .int i=>k=(i != 0)
 | .str y=>y.length≤sizeLine∧k=((y.length:Int) != 0)
 | .byt y=>y.size≤sizeLine∧k=((y.size:Int) != 0)
 | .ref p=>(∃xs,SqL K H p xs∧k=!xs.isEmpty)∨(∃xs,SqT K H p xs∧k=!xs.isEmpty)∨∃kvs,H p=some (.dK kvs)∧k=!kvs.isEmpty
 | _=>False
theorem Zhf {κ:Type}{kvs:List (κ×V)}{vs:List (κ×Value)}(r:KV kvs vs):(!vs.isEmpty)=!kvs.isEmpty:=by
 cases r<;>rfl
theorem ZdZ {xs:List V}{its:List Value}(r:Vals xs its):(!its.toArray.isEmpty)=!xs.isEmpty:=by
 cases r<;>simp
theorem Ze7:(sizeLine:Nat)<2 ^ 63:=by rw[sizeLine_eq];decide
theorem ZlN:TruR X (fun x H Q=>∃k,TruV X.K x H k∧Q k H):=by
 intro pins s σ H x v Q I rx h
 obtain⟨k,e,q⟩:=h
 have hl:=Ze7
 have hs:sizeLine=16777216:=sizeLine_eq
 cases x with
 | non=>
  cases rx
  have e':k=false:=e
  subst e'
  exact truthy_none ⟨H,I,q⟩
 | bl b=>
  cases rx
  have e':k=b:=e
  subst e'
  exact YCH ⟨H,I,q⟩
 | int i=>
  obtain⟨t,rfl⟩:=rx
  have e':k=(i != 0):=e
  subst e'
  exact PySem.P.truthy_int ⟨H,I,q⟩
 | str y=>
  obtain⟨t,rfl⟩:=rx
  obtain⟨hy,e'⟩:y.length≤sizeLine∧k=((y.length:Int) != 0):=e
  subst e'
  exact PySem.P.truthy_str (by omega) ⟨H,I.tok _,q⟩
 | byt y=>
  obtain⟨t,rfl⟩:=rx
  obtain⟨hy,e'⟩:y.size≤sizeLine∧k=((y.size:Int) != 0):=e
  subst e'
  exact PySem.W.truthy_bytes (by omega) ⟨H,I.tok _,q⟩
 | ref p=>
  cases rx
  have e':(∃xs,SqL X.K H p xs∧k=!xs.isEmpty)∨(∃xs,SqT X.K H p xs∧k=!xs.isEmpty)∨∃kvs,H p=some (.dK kvs)∧k=!kvs.isEmpty:=e
  rcases e' with⟨xs,hx,e'⟩|⟨xs,hx,e'⟩|⟨kvs,hx,e'⟩
  ·subst e'
   obtain⟨its,r,pl,hz⟩:=I.list hx
   have hlen:=r.length
   exact wpAny_truthy_list pl.isList (by simp only[YAI];omega) ⟨H,I.tok _,by rw[ZdZ r];exact q⟩
  ·subst e'
   obtain⟨its,r,pl,hz⟩:=I.tuple hx
   have hlen:=r.length
   exact truthy_tuple pl (by simp only[YAI];omega) ⟨H,I.tok _,by rw[ZdZ r];exact q⟩
  ·subst e'
   obtain⟨hz,hS,vs,r,m⟩:kvs.length≤sizeLine∧(p == sysModules)=false∧∃vs,KV kvs vs∧s.heap.DictOf (ZaI X.prog X.w) p vs:=I.hok p _ hx
   have hlen:kvs.length=vs.length:=Paired.length r
   exact wpAny_truthy_dict hS m (by omega) ⟨H,I.tok _,by rw[Zhf r];exact q⟩
 | _=>exact(show False from e).elim
theorem Zi9 (ha:PE X a ta)(he:∀whole,isTrue a X.env whole=(do let v ←whole;standAt a.pos;holding [v] (truthy v))):
  PT X a (fun σ H Q=>ta σ H fun x H'=>∃k,TruV X.K x H' k∧Q k H'):=by
 intro pins s σ H Q I h
 exact isTrue_plain (thn (ha pins s σ H _ I h) fun v s1 ⟨x,H1,I1,r1,q1⟩=>ZlN pins s1 σ H1 x v Q I1 r1 q1) (he _)
theorem Zg0:OpR X (binaryOp .Add) (fun x y H Q=>∃i j,x=.str i∧y=.str j∧i.length+j.length≤sizeLine∧Q (.str (i++j)) H):=by
 intro pins s σ H x y v u Q I rx ry h
 obtain⟨i,j,rfl,rfl,hz,q⟩:=h
 obtain⟨t,rfl⟩:=rx
 obtain⟨t',rfl⟩:=ry
 exact add_str (fun t' tk=>⟨.str (i++j),H,I.tok _,⟨_,rfl⟩,q⟩) hz
theorem vals1 {x:V}{us:List Value}(r:Vals [x] us):∃u,us=[u]∧RelV x u:=by
 cases r with
 | cons r1 r2=>cases r2;exact⟨_,rfl,r1⟩
def LenV (K:PySem.W.Frag)(x:V)(H:Hp)(n:Nat):Prop:=
 match x with
 | .str y=>y.length≤sizeLine∧n=y.length
 | .byt y=>y.size≤sizeLine∧n=y.size
 | .ref p=>(∃xs,SqL K H p xs∧n=xs.length)∨∃xs,SqT K H p xs∧n=xs.length
 | _=>False
theorem ZjJ:ZcD X (.builtin "len") (fun xs H Q=>∃x n,xs=[x]∧LenV X.K x H n∧Q (.int n) H):=by
 intro pins s σ H xs us Q I r h
 obtain⟨x,n,rfl,e,q⟩:=h
 obtain⟨u,rfl,rx⟩:=vals1 r
 have hl:=Ze7
 have hs:sizeLine=16777216:=sizeLine_eq
 cases x with
 | str y=>
  obtain⟨t,rfl⟩:=rx
  obtain⟨hy,e'⟩:y.length≤sizeLine∧n=y.length:=e
  subst e'
  exact len_str (by omega) ⟨.int _,H,I.tok _,⟨_,rfl⟩,q⟩
 | byt y=>
  obtain⟨t,rfl⟩:=rx
  obtain⟨hy,e'⟩:y.size≤sizeLine∧n=y.size:=e
  subst e'
  exact PySem.W.len_bytes (by omega) ⟨.int _,H,I.tok _,⟨_,rfl⟩,q⟩
 | ref p=>
  cases rx
  have e':(∃xs,SqL X.K H p xs∧n=xs.length)∨∃xs,SqT X.K H p xs∧n=xs.length:=e
  rcases e' with⟨xs,hx,e'⟩|⟨xs,hx,e'⟩
  ·subst e'
   obtain⟨its,r',pl,hz⟩:=I.list hx
   have hlen:=r'.length
   exact Calls.call_len_list pl.isList (by simp only[YAI];omega) ⟨.int xs.length,H,I.tok _,⟨_,by simp only[YAI];rw[hlen]⟩,q⟩
  ·subst e'
   obtain⟨its,r',pl,hz⟩:=I.tuple hx
   have hlen:=r'.length
   exact len_tuple pl (by simp only[YAI];omega) ⟨.int xs.length,H,I.tok _,⟨_,by simp only[YAI];rw[hlen]⟩,q⟩
 | _=>exact(show False from e).elim
end
structure ObjM (h:Heap)(x dx C:Addr)(mA:Str→Option Value):Prop where
 obj:h.get? x=some (PySem.W.instObj C dx)
 ns:h.Ns1 dx mA
 ne:dx≠x
theorem Zds {h:Heap}{dx:Addr}{mA:Str→Option Value}(n:h.Ns1 dx mA):∃od,h.get? dx=some od∧∀name,PySem.W.lookIn name od=some (mA name):=by
 obtain⟨o,es,ep,ho,hd,hk,_,hm⟩:=n
 refine⟨o,ho,fun name=>?_⟩
 have e:=hm name
 unfold nsFind findBy at e
 rw[←Array.find?_toList]at e
 unfold PySem.W.lookIn
 rw[hd]
 dsimp only
 split
 ·rename_i y q
  rw[q]at e
  exact congrArg some e
 ·rename_i q
  rw[q]at e
  have a:es.toList.any (·.refKey)=false:=by
   rw[List.any_eq_false]
   intro y hy
   obtain⟨z,t,hkey⟩:=hk y (Array.mem_toList_iff.mp hy)
   simp[DictEntry.refKey,hkey]
  have a':¬es.toList.any (·.refKey)=true:=by rw[a];exact YAC
  rw[YAJ a']
  exact congrArg some e
theorem ObjM.look {h:Heap}{x dx C:Addr}{mA:Str→Option Value}(I:ObjM h x dx C mA):∃od,PySem.W.InstAt h x (PySem.W.instObj C dx) C (some od)∧∀name,PySem.W.lookIn name od=some (mA name):=
 let ⟨od,ho,hl⟩:=Zds I.ns
 ⟨od,⟨I.obj,rfl,rfl,ho⟩,hl⟩
section
variable {prog:Program}{w:World}{A:Around}{E:Value→Shared→Prop}{s:Shared}{K:PySem.W.Frag}{x dx C f:Addr}{mA:Str→Option Value}{name:Str}{v:Value}
theorem Zlo {expr:Bool}{Q:Value→Shared→Prop}(X:K.In s.heap)(I:ObjM s.heap x dx C mA)(hg:PySem.W.plainGet K C name=true)(hh:PySem.W.hasDictIn K C=true)
  (ha:PySem.W.findIn K (.ref C) name=some none) (hv:mA name=some v) (hv':PySem.W.handedIn v=true) (h:Q v { s with toks:=s.toks+1 }):
  wpAny (model prog w) A (getAttr (.ref x) name expr) Q E s:=by
 obtain⟨od,J,hl⟩:=I.look
 exact PySem.W.get_value X J (PySem.W.plainGet_of hg).1 (PySem.W.findObj_own hh ha rfl (by rw[hl,hv])) hv' h
theorem Zjx {pl:Sem Bool}{Q:Value×List Value→Shared→Prop}(X:K.In s.heap)(I:ObjM s.heap x dx C mA)(hg:PySem.W.plainGet K C name=true)
  (hf:PySem.W.findIn K (.ref C) name=some (some (.ref f))) (ht:PySem.W.isFn K (.ref f)=true) (hv:mA name=none) (h:Q (.ref f,[.ref x]) s):
  wpAny (model prog w) A (getMethod (.ref x) name pl) Q E s:=by
 obtain⟨od,J,hl⟩:=I.look
 exact PySem.W.method_fn X J (PySem.W.plainGet_of hg).1 (PySem.W.plainGet_of hg).2 hf (beq_iff_eq.mp ht) (by show (PySem.W.lookIn name od).map (·.isSome)=some false;rw[hl,hv];rfl) h
theorem ZkE {ns:List Str}{Q:Unit→Shared→Prop}(X:K.In s.heap)(I:ObjM s.heap x dx C mA)
  (hs:PySem.W.findIn K (.ref C) "__setattr__"=some (some (.builtin "object.__setattr__"))) (hp:PySem.W.plainOver K C=true) (ht:PySem.W.takerIn K C name=some none) (hh:PySem.W.hasDictIn K C=true)
  (hw:PySem.Within mA ns) (hsz:ns.length≤sizeLine)
  (h:∀h',ObjM h' x dx C (fun y=>if y=name then some v else mA y)→Heap.SameBut dx s.heap h'→Q () { s with heap:=h',toks:=s.toks+2 }):
  wpAny (model prog w) A (setAttr (.ref x) name v) Q E s:=by
 obtain⟨od,J,hl⟩:=I.look
 refine PySem.W.set_plain X J hs (PySem.W.osa_open (s:={ s with toks:=s.toks+1 }) (r:=none) X J hp ht fun b=>?_)
 obtain⟨cd,hc,hd'⟩:=YCQ hh
 have hx:s.heap.get? x=some ⟨.ref C,some dx,.plain,#[]⟩:=I.obj
 refine YAA (YAD (YAA (YAA (wpAny_loadPart hx (YAA (PySem.W.Looks.here (s:={ s with toks:=s.toks+1 }) (PySem.W.looks_clsIn X hc) ?_))))))
 rw[hd']
 refine YAD (a:=some dx) (YAA (YAD (YAA ?_)))
 refine wpAny_nsSet1 (s:={ s with toks:=s.toks+1 }) I.ns fun h' hn2 hs2=>?_
 obtain⟨oD,esD,epD,hoD,hdD,hcD⟩:=hn2.count (PySem.Within.cons name v hw)
 refine YAA (wpAny_lookBehind hoD (by rw[hdD];exact pastItsLine_dict (YAP hcD (by rw[YAn];omega))) ?_)
 exact YAD (h _ ⟨(hs2.2 _ (YAx I.ne)).trans I.obj,hn2,I.ne⟩ hs2)
theorem Zjl {R:Result→Shared→Prop}{vs:List Value}{kw:List (Str×Value)}(X:K.In s.heap)(hm:PySem.W.makesIn K C=true)
  (hi:PySem.W.findIn K (.ref C) "__init__"=some (some (.ref f))) (hf:PySem.W.typeIn K (.ref f)=some (.type "function"))
  (h:codeAny (model prog w) (A.under (.builtin "type.__call__" ⟨.ref C::vs,kw⟩)) (.call (.ref f) ⟨.ref (s.heap.objs.size+1)::vs,kw⟩) (PySem.W.InitBack (s.heap.objs.size+1) R)
   { s with heap:=(s.heap.push PySem.W.emptyDict).push (PySem.W.instObj C s.heap.objs.size) }):
  codeAny (model prog w) A (.call (.ref C) ⟨vs,kw⟩) R s:=by
 obtain⟨hh,g,d,t,os⟩:=s
 exact PySem.W.make_core (PySem.W.makes_of X hm) (YBf X hi) (fun self=>PySem.W.bind_fn X self hf) (.inl rfl) h
end
noncomputable def putF (f:Str)(v:V):List (Str×V)→List (Str×V)
 | []=>[(f,v)]
 | (g,x)::r=>if g=f then (g,v)::r else (g,x)::putF f v r
theorem Zar (f g:Str)(v:V):∀fs:List (Str×V),(putF f v fs).lookup g=if g=f then some v else fs.lookup g
 | []=>by
  show List.lookup g [(f,v)]=_
  by_cases h:g=f
  ·have hb:(g == f)=true:=beq_iff_eq.mpr h
   simp only[List.lookup,hb,YAO h]
  ·have hb:(g == f)=false:=beq_eq_false_iff_ne.mpr h
   simp only[List.lookup,hb,YAJ h]
 | (k,x)::r=>by
  have ih:=Zar f g v r
  rw[show putF f v ((k,x)::r)=(if k=f then (k,v)::r else (k,x)::putF f v r) from rfl]
  by_cases hk:k=f
  ·rw[YAO hk]
   by_cases h:g=k
   ·have hb:(g == k)=true:=beq_iff_eq.mpr h
    simp only[List.lookup,hb,YAO (h.trans hk)]
   ·have hb:(g == k)=false:=beq_eq_false_iff_ne.mpr h
    simp only[List.lookup,hb,YAJ (fun e:g=f=>h (e.trans hk.symm))]
  ·rw[YAJ hk]
   by_cases h:g=k
   ·have hb:(g == k)=true:=beq_iff_eq.mpr h
    simp only[List.lookup,hb,YAJ (fun e:g=f=>hk (h.symm.trans e))]
   ·have hb:(g == k)=false:=beq_eq_false_iff_ne.mpr h
    simp only[List.lookup,hb]
    exact ih
theorem ZbW (f:Str)(v:V):∀fs:List (Str×V),f∈(putF f v fs).map (·.1)∧∀g,g∈fs.map (·.1)→g∈(putF f v fs).map (·.1)
 | []=>⟨by simp[putF],fun g h=>by simp at h⟩
 | (k,x)::r=>by
  obtain⟨i1,i2⟩:=ZbW f v r
  rw[show putF f v ((k,x)::r)=(if k=f then (k,v)::r else (k,x)::putF f v r) from rfl]
  by_cases hk:k=f
  ·rw[YAO hk]
   subst hk
   exact⟨by simp,fun g h=>by simpa using h⟩
  ·rw[YAJ hk]
   refine⟨?_,fun g h=>?_⟩
   ·rw[YAf]
    exact YAW _ i1
   ·rw[YAf]at h ⊢
    rcases YAK.mp h with e | e
    ·exact YAK.mpr (.inl e)
    ·exact YAW _ (i2 g e)
theorem Zce (f:Str)(v:V):∀fs:List (Str×V),(putF f v fs).length≤fs.length+1
 | []=>by simp[putF]
 | (k,x)::r=>by
  have ih:=Zce f v r
  rw[show putF f v ((k,x)::r)=(if k=f then (k,v)::r else (k,x)::putF f v r) from rfl]
  by_cases hk:k=f
  ·rw[YAO hk,YAn,YAn];omega
  ·rw[YAJ hk,YAn,YAn];omega
theorem RelO.some_of {v:V}{o:Option Value}(r:RelO (some v) o):∃u,o=some u∧RelV v u:=by
 cases o with
 | none=>exact(show False from r).elim
 | some u=>exact⟨u,rfl,r⟩
theorem RelO.none_of {o:Option Value}(r:RelO none o):o=none:=by
 cases o with
 | none=>rfl
 | some u=>exact(show False from r).elim
theorem Zfi {v:V}{u:Value}(r:RelV v u):PySem.W.handedIn u=true:=by
 cases v with
 | non=>cases (show u=Value.none from r);rfl
 | bl b=>cases (show u=Value.bool b from r);rfl
 | int i=>obtain⟨t,e⟩:=(show ∃t,u=Value.int i t from r);cases e;rfl
 | str x=>obtain⟨t,e⟩:=(show ∃t,u=Value.str x t from r);cases e;rfl
 | byt b=>obtain⟨t,e⟩:=(show ∃t,u=Value.bytes b t from r);cases e;rfl
 | flt b=>obtain⟨t,e⟩:=(show ∃t,u=Value.float b t from r);cases e;rfl
 | ref a=>cases (show u=Value.ref a from r);rfl
 | ty n=>cases (show u=Value.type n from r);rfl
section
variable {P:Program}{w:World}{H H':Hp}{h h':Heap}{a C dx:Addr}{fs fs':List (Str×V)}
theorem Zep (hok:HOk P w H h)(e:H a=some (.ins C dx fs)):∃mA,ObjM h a dx C mA∧(∀f,RelO (fs.lookup f) (mA f))∧PySem.Within mA (fs.map (·.1))∧fs.length≤1000∧H dx=some (.own a):=by
 obtain⟨d,z,ne,ob,mA,n,r,q⟩:=(show ObjOk P w H h a (.ins C dx fs) from hok a _ e)
 exact⟨mA,⟨ob,n,ne⟩,r,q,z,d⟩
end
structure Cls (K:PySem.W.Frag)(C:Addr):Prop where
 pg:PySem.W.plainGet K C Str.empty=true
 hd:PySem.W.hasDictIn K C=true
 po:PySem.W.plainOver K C=true
 sa:PySem.W.findIn K (.ref C) "__setattr__"=some (some (.builtin "object.__setattr__"))
theorem Cls.get {K:PySem.W.Frag}{C:Addr}(c:Cls K C)(f:Str):PySem.W.plainGet K C f=true:=c.pg
def NoAttr (K:PySem.W.Frag)(C:Addr)(f:Str):Prop:=PySem.W.findIn K (.ref C) f=some none
theorem NoAttr.taker {K:PySem.W.Frag}{C:Addr}{f:Str}(n:NoAttr K C f):PySem.W.takerIn K C f=some none:=by
 unfold PySem.W.takerIn
 rw[show PySem.W.findIn K (.ref C) f=some none from n]
 rfl
structure Meth (K:PySem.W.Frag)(C:Addr)(m:Str)(f:Addr):Prop where
 at_:PySem.W.findIn K (.ref C) m=some (some (.ref f))
 fn:PySem.W.isFn K (.ref f)=true
 kp:PySem.W.keepIn K (.ref f)=true
section
variable {X:Cx}{pins:List (Addr×Obj)}{σ:St}{H:Hp}{s:Shared}{a C dx:Addr}{fs:List (Str×V)}{f:Str}{v:V}{A:Around}{E:Value→Shared→Prop}
theorem Zhg {b:Bool}{Q:Value→Shared→Prop}(I:Inv X pins σ H s)(e:H a=some (.ins C dx fs))(c:Cls X.K C)(n:NoAttr X.K C f)(l:fs.lookup f=some v)
  (h:∀u s',Inv X pins σ H s'→RelV v u→Q u s'):wpAny (model X.prog X.w) A (getAttr (.ref a) f b) Q E s:=by
 obtain⟨mA,O,r,_,_,_⟩:=Zep I.hok e
 obtain⟨u,hu,ru⟩:=RelO.some_of (v:=v) (o:=mA f) (by rw[←l];exact r f)
 exact Zlo I.kIn O (c.get f) c.hd n hu (Zfi ru) (h u _ (I.tok _) ru)
theorem ZcJ {m:Str}{g:Addr}{pl:Sem Bool}{Q:Value×List Value→Shared→Prop}(I:Inv X pins σ H s)(e:H a=some (.ins C dx fs))(c:Cls X.K C)(k:Meth X.K C m g)(l:fs.lookup m=none)
  (h:Q (.ref g,[.ref a]) s):wpAny (model X.prog X.w) A (getMethod (.ref a) m pl) Q E s:=by
 obtain⟨mA,O,r,_,_,_⟩:=Zep I.hok e
 have hn:mA m=none:=RelO.none_of (by rw[←l];exact r m)
 exact Zjx I.kIn O (c.get m) k.at_ k.fn hn h
theorem ZgU {y:V}{u:Value}{Q:Unit→Shared→Prop}(I:Inv X pins σ H s)(e:H a=some (.ins C dx fs))(c:Cls X.K C)(n:NoAttr X.K C f)(hl:fs.length<1000)(ry:RelV y u)
  (h:∀s',Inv X pins σ (upd H a (.ins C dx (putF f y fs))) s'→Q () s'):wpAny (model X.prog X.w) A (setAttr (.ref a) f u) Q E s:=by
 obtain⟨mA,O,r,wi,_,ho⟩:=Zep I.hok e
 have hz:(fs.map (·.1)).length≤sizeLine:=by rw[YAE,sizeLine_eq];omega
 refine ZkE I.kIn O c.sa c.po n.taker c.hd wi hz fun h' O' sb=>h _ ?_
 have hd:∃o,h'.get? dx=some o:=let ⟨o,_,_,e',_⟩:=O'.ns;⟨o,e'⟩
 refine I.write (x:=a) (e:=dx) (by rw[e];exact True.intro) (.inr ho) (fun b q hb z=>(sb.2 b hb).trans z) hd ?_
 refine⟨by rw[Zae O.ne];exact ho,?_,O.ne,O'.obj,_,O'.ns,fun g=>?_,fun g hg=>?_⟩
 ·have:=Zce f y fs;omega
 ·show RelO ((putF f y fs).lookup g) (if g=f then some u else mA g)
  rw[Zar]
  by_cases q:g=f
  ·rw[YAO q,YAO q];exact ry
  ·rw[YAJ q,YAJ q];exact r g
 ·by_cases q:g=f
  ·rw[q];exact(ZbW f y fs).1
  ·refine(ZbW f y fs).2 g (wi g fun z=>hg ?_)
   show (if g=f then some u else mA g)=none
   rw[YAJ q];exact z
theorem Inv.made (I:Inv X pins σ H s):Inv X pins σ (upd (upd H s.heap.objs.size (.own (s.heap.objs.size+1))) (s.heap.objs.size+1) (.ins C s.heap.objs.size []))
  { s with heap:=(s.heap.push PySem.W.emptyDict).push (PySem.W.instObj C s.heap.objs.size) }:=by
 have e1:(s.heap.push PySem.W.emptyDict).get? s.heap.objs.size=some PySem.W.emptyDict:=YAG s.heap rfl
 have e2:((s.heap.push PySem.W.emptyDict).push (PySem.W.instObj C s.heap.objs.size)).get? (s.heap.objs.size+1)=some (PySem.W.instObj C s.heap.objs.size):=by
  have:=YAG (s.heap.push PySem.W.emptyDict) (o:=PySem.W.instObj C s.heap.objs.size) rfl
  rwa [YAs]at this
 have e3:(s.heap.push PySem.W.emptyDict).Ns s.heap.objs.size (fun _=>none):=⟨PySem.W.emptyDict,#[],_,e1,rfl,(fun e he=>absurd he (by simp)),fun _=>rfl⟩
 have I1:=I.laid (a:=s.heap.objs.size) (o:=.own (s.heap.objs.size+1)) (h':=s.heap.push PySem.W.emptyDict) (t':=s.toks) (fun b u q=>YAB _ q) (YAQ _) ⟨_,e1⟩
 refine I1.laid (a:=s.heap.objs.size+1) (o:=.ins C s.heap.objs.size []) (t':=s.toks) (fun b u q=>YAB _ q) (YCO (YAs _ _)) ?_
 have ne:s.heap.objs.size≠s.heap.objs.size+1:=YAX (Nat.lt_succ_self _)
 refine⟨by rw[Zae ne,Zad],YAz _,ne,e2,fun _=>none,(Heap.Ns1.of_empty e3).at fun o q=>YAB _ q,fun _=>True.intro,fun y hy=>absurd rfl hy⟩
theorem ZiK {prog:Program}{w:World}{env:Env}{e:Expr}{f:Str}{pos:Pos}{s:Shared}{Q:Value→Shared→Prop}(hb:attributeBase e f env (eval e env)=eval e env)
  (h:wpAny (model prog w) A (eval e env) (fun o s₁=>wpAny (model prog w) A (getAttr o f true) Q E s₁) E s):wpAny (model prog w) A (eval (.Attribute e f pos) env) Q E s:=
 Attribute_any_ h (by rw[arm_eval_Attribute,hb])
end
def tFld (K:PySem.W.Frag)(ta:TE)(f:Str):TE:=fun σ H Q=>ta σ H fun x H1=>∃a C dx fs v,x=.ref a∧H1 a=some (.ins C dx fs)∧Cls K C∧NoAttr K C f∧fs.lookup f=some v∧Q v H1
def sFld (K:PySem.W.Frag)(ta tv:TE)(f:Str):TS:=fun D σ H=>tv σ H fun y H1=>ta σ H1 fun x H2=>∃a C dx fs,x=.ref a∧H2 a=some (.ins C dx fs)∧Cls K C∧NoAttr K C f∧fs.length<1000 ∧
 D.nx σ (upd H2 a (.ins C dx (putF f y fs)))
section
variable {X:Cx}{o e value:Expr}{f:Str}{pos pos' tpos:Pos}{ta tv:TE}
theorem Zmq (he:PE X e ta)(hb:attributeBase e f X.env (eval e X.env)=eval e X.env):PE X (.Attribute e f pos) (tFld X.K ta f):=by
 intro pins s σ H Q I h
 refine ZiK hb (thn (he pins s σ H _ I h) fun u s1 ⟨x,H1,I1,rx,a,C,dx,fs,v,ex,ea,c,n,l,q⟩=>?_)
 subst ex
 obtain rfl:u=Value.ref a:=rx
 exact Zhg I1 ea c n l fun u' s2 I2 ru=>⟨v,H1,I2,ru,q⟩
theorem ZdU (ha:PE X o ta)(hv:PE X value tv)(hs:swapsWith value (some (.Attribute o f pos')) pos.line X.env=pure false):PS X (.Assign [.Attribute o f pos'] value pos) (sFld X.K ta tv f):=by
 intro pins s σ H D I h
 refine plainObj_wpAny_Assign_Attribute (thn (hv pins s σ H _ I h) fun u s1 ⟨y,H1,I1,ry,q⟩=>thn (ha pins s1 σ H1 _ I1 q) fun ov s2 ⟨x,H2,I2,rx,a,C,dx,fs,ex,ea,c,n,l,q2⟩=>?_) hs
 subst ex
 obtain rfl:ov=Value.ref a:=rx
 exact ZgU I2 ea c n l ry fun s3 I3=>⟨σ,_,I3,q2⟩
theorem Zk6 {pl:Sem Bool}{m:Str}{apos:Pos}{args:List Expr}{pins:List (Addr×Obj)}{s:Shared}{σ:St}{H:Hp}{Q:Value→Shared→Prop}{te:TE}(he:PE X e te)(I:Inv X pins σ H s)
  (h:te σ H fun x H1=>∃a C dx fs g,x=.ref a∧H1 a=some (.ins C dx fs)∧Cls X.K C∧Meth X.K C m g∧fs.lookup m=none ∧
   ∀s1,Inv X pins σ H1 s1→wpAny (model X.prog X.w) X.A (callWith pos (.ref g) [.ref a] (backTo pos (starEach args X.env)) (backToKw pos (keywordEach [] X.env))) Q X.xe s1)
  (ht:eval (.Call (.Attribute e m apos) args [] pos) X.env=(do
   let ov ←eval e X.env
   standAt apos.atName
   let (f,first) ←holding [ov] (getMethod ov m pl)
   callWith pos f first (backTo pos (starEach args X.env)) (backToKw pos (keywordEach [] X.env)))):
  wpAny (model X.prog X.w) X.A (eval (.Call (.Attribute e m apos) args [] pos) X.env) Q X.xe s:=by
 refine YCa (pl:=pl) (thn (he pins s σ H _ I h) fun u s1 ⟨x,H1,I1,rx,a,C,dx,fs,g,ex,ea,c,k,l,q⟩=>?_) ht
 subst ex
 obtain rfl:u=Value.ref a:=rx
 exact ZcJ I1 ea c k l (q s1 I1)
end
section
variable {X:Cx}{pins:List (Addr×Obj)}{σ:St}{H:Hp}{s:Shared}{A:Around}{E:Value→Shared→Prop}{Q:Value→Shared→Prop}{c:Value}{b:Bool}
inductive TyOf (K:PySem.W.Frag) (H:Hp):V→Value→Prop where
 | non:TyOf K H .non (.type "NoneType")
 | bl (x:Bool):TyOf K H (.bl x) (.type "bool")
 | int (i:Int):TyOf K H (.int i) (.type "int")
 | str (x:Str):TyOf K H (.str x) (.type "str")
 | flt (x:UInt64):TyOf K H (.flt x) (.type "float")
 | lst {a:Addr} {xs:List V} (e:H a=some (.lst xs)):TyOf K H (.ref a) (.type "list")
 | frz {a:Addr} {o:Obj} {xs:List V} (e:H a=some (.frz o (.lst xs))):TyOf K H (.ref a) (.type "list")
 | tup {a:Addr} {xs:List V} (e:H a=some (.tup xs)):TyOf K H (.ref a) (.type "tuple")
 | dK {a:Addr} {kvs:List (Key×V)} (e:H a=some (.dK kvs)):TyOf K H (.ref a) (.type "dict")
 | dT {a:Addr} {kvs:List (List Key×V)} (e:H a=some (.dT kvs)):TyOf K H (.ref a) (.type "dict")
 | ins {a C dx:Addr} {fs:List (Str×V)} (e:H a=some (.ins C dx fs)) (cl:Cls K C) (ha:PySem.W.findIn K (.ref C) "__class__"=some (some (.builtin "object.__class__")))
   (hn:PySem.W.specialIn K (.builtin "object.__class__") "__get__"=some (some (.builtin "getset_descriptor.__get__"))) (htk:PySem.W.takesIn K (.builtin "object.__class__")=some true)
   (hm:PySem.W.mroIn K C (.type "object")=some true):TyOf K H (.ref a) (.ref C)
theorem Zio {x:V}{u t:Value}(I:Inv X pins σ H s)(rx:RelV x u)(ty:TyOf X.K H x t)(e:PySem.W.kitOne X.K t c=some b)(h:∀tk,Q (.bool b) { s with toks:=tk }):
  wpAny (model X.prog X.w) A (call (.builtin "isinstance") [u,c]) Q E s:=by
 cases ty with
 | non=>cases (show u=Value.none from rx);exact YBG PySem.W.kitx_none I.kIn True.intro e (fun z=>nomatch z) h
 | bl y=>cases (show u=Value.bool y from rx);exact YBG PySem.W.kitx_bool I.kIn True.intro e (fun z=>nomatch z) h
 | int i=>obtain⟨t,q⟩:=(show ∃t,u=Value.int i t from rx);cases q;exact YBG PySem.W.kitx_int I.kIn True.intro e (fun z=>nomatch z) h
 | str y=>obtain⟨t,q⟩:=(show ∃t,u=Value.str y t from rx);cases q;exact YBG PySem.W.kitx_str I.kIn True.intro e (fun z=>nomatch z) h
 | flt y=>obtain⟨t,q⟩:=(show ∃t,u=Value.float y t from rx);cases q;exact YBG PySem.W.kitx_float I.kIn True.intro e (fun z=>nomatch z) h
 | @lst a xs ea=>
  cases (show u=Value.ref a from rx)
  obtain⟨_,_,n,_,h1⟩:=(show ObjOk X.prog X.w H s.heap a (.lst xs) from I.hok a _ ea)
  exact YBG YCf I.kIn ⟨_,h1,rfl⟩ e (fun z=>nomatch z) h
 | @frz a ob xs ea=>
  cases (show u=Value.ref a from rx)
  obtain⟨_,_,_,n,_,h1⟩:=(show ObjOk X.prog X.w H s.heap a (.frz ob (.lst xs)) from I.hok a _ ea)
  exact YBG YCf I.kIn ⟨_,h1,rfl⟩ e (fun z=>nomatch z) h
 | @tup a xs ea=>
  cases (show u=Value.ref a from rx)
  obtain⟨_,_,_,p⟩:=(show ObjOk X.prog X.w H s.heap a (.tup xs) from I.hok a _ ea)
  obtain⟨o,h1,h2,_⟩:=p
  exact YBG YDU I.kIn ⟨o,h1,h2⟩ e (fun z=>nomatch z) h
 | @dK a kvs ea=>
  cases (show u=Value.ref a from rx)
  obtain⟨_,_,vs,_,p⟩:=(show ObjOk X.prog X.w H s.heap a (.dK kvs) from I.hok a _ ea)
  obtain⟨o,es,ep,h1,h2,_⟩:=p
  exact YBG PySem.W.kitx_dict I.kIn ⟨o,h1,h2.1⟩ e (fun z=>nomatch z) h
 | @dT a kvs ea=>
  cases (show u=Value.ref a from rx)
  obtain⟨_,_,xs,_,o,es,ep,h1,h2,_⟩:=(show ObjOk X.prog X.w H s.heap a (.dT kvs) from I.hok a _ ea)
  exact YBG PySem.W.kitx_dict I.kIn ⟨o,h1,h2.1⟩ e (fun z=>nomatch z) h
 | @ins a C dx fs ea cl ha hn htk hm=>
  cases (show u=Value.ref a from rx)
  obtain⟨mA,O,_⟩:=Zep I.hok ea
  obtain⟨od,J,_⟩:=O.look
  exact YBG (PySem.W.kitx_own (cl.get _) cl.hd ha hn htk hm) I.kIn J e (fun z=>nomatch z) h
end
structure Room (k:Nat)(A:Around):Prop where
 hd:A.handled=none
 dp:A.depth+3*k+5<recursionLimit
 un:A.units+16*k+200<cLine
theorem Room.mono {j k:Nat}{A:Around}(r:Room k A)(h:j≤k):Room j A:=⟨r.hd,by have:=r.dp;omega,by have:=r.un;omega⟩
theorem Room.deeper {k:Nat}{A:Around}(r:Room (k+1) A)(env:Env):Room k (A.deeper env):=
 ⟨r.hd,by have:=r.dp;show A.depth+1+3*k+5<_;omega,by have:=r.un;show A.units+3+16*k+200<_;omega⟩
theorem Zg9 {A:Around}{C:Addr}{us:List Value}{kw:List (Str×Value)}:(A.under (.builtin "type.__call__" ⟨.ref C::us,kw⟩)).depth=A.depth+1:=by
 first | rfl | simp[Around.under,Code.weight,Code.isCreation,Code.isGuard,Code.isCaller,Code.frames,Code.isFrame,guardIds]
theorem Zg8 {A:Around}{C:Addr}{us:List Value}{kw:List (Str×Value)}:(A.under (.builtin "type.__call__" ⟨.ref C::us,kw⟩)).units=A.units+1:=by
 first | rfl | simp[Around.under,Code.cUnits,Code.frames,Code.isFrame]
theorem Room.make {k:Nat}{A:Around}(r:Room (k+1) A)(C:Addr)(us:List Value)(kw:List (Str×Value)):Room k (A.under (.builtin "type.__call__" ⟨.ref C::us,kw⟩)):=
 ⟨r.hd,by have:=r.dp;rw[Zg9];omega,by have:=r.un;rw[Zg8];omega⟩
theorem Room.depth {k:Nat}{A:Around}(r:Room k A):A.depth<recursionLimit:=by have:=r.dp;omega
theorem Room.units {k:Nat}{A:Around}(r:Room k A):A.units+64<cLine:=by have:=r.un;omega
def tNil:TA:=fun _ H Q=>Q [] H
def Zl0 (ta:TE)(tr:TA):TA:=fun σ H Q=>ta σ H fun x H1=>tr σ H1 fun xs H2=>Q (x::xs) H2
section
variable {X:Cx}{e:Expr}{es:List Expr}{te:TE}{t:TA}{pos:Pos}
theorem Zab:PA X [] tNil:=fun _ _ _ _ H Q I h=>Calls.spliced_nil ⟨[],H,I,.nil,h⟩
theorem Zaa (ha:PE X e te)(hr:PA X es t)(hs:starEach (e::es) X.env=(false,eval e X.env)::starEach es X.env:=by rfl):PA X (e::es) (Zl0 te t):=by
 intro pos pins s σ H Q I h
 rw[hs]
 show wpAny _ _ (spliced ((false,eval e X.env)::backTo pos (starEach es X.env))) _ _ s
 refine YDW (thn (ha pins s σ H _ I h) fun u s1 ⟨x,H1,I1,r1,q1⟩=>?_)
 exact thn (hr pos pins s1 σ H1 _ I1 q1) fun us s2 ⟨xs,H2,I2,r2,q2⟩=>⟨x::xs,H2,I2,.cons r1 r2,q2⟩
def tTup (t:TA):TE:=fun σ H Q=>t σ H fun xs H1=>xs.length≤sizeLine∧∀p,H1 p=none→Q (.ref p) (upd H1 p (.tup xs))
def tLst (t:TA):TE:=fun σ H Q=>t σ H fun xs H1=>xs.length≤sizeLine∧∀p,H1 p=none→Q (.ref p) (upd H1 p (.lst xs))
theorem ZbV {x1}(h:PA X es t):PE X (.Tuple es x1 pos) (tTup t):=by
 intro pins s σ H Q I hq
 refine wpAny_Tuple_spliced (thn (h pos pins s σ H _ I hq) fun us s1 ⟨xs,H1,I1,r,z,q⟩=>⟨by rw[←r.length];exact z,?_⟩)
 have hf:H1 s1.heap.objs.size=none:=I1.hok.fresh (YAQ _)
 refine⟨.ref s1.heap.objs.size,upd H1 s1.heap.objs.size (.tup xs),I1.laid (t':=s1.toks) (fun b u e=>YAB _ e) (YAQ _) ?_,rfl,q _ hf⟩
 exact⟨z,us,r,⟨_,YAG _ rfl,rfl,_,rfl⟩⟩
theorem Zbo (h:PA X es t):PE X (.List es pos) (tLst t):=by
 intro pins s σ H Q I hq
 refine wpAny_List_spliced (thn (h pos pins s σ H _ I hq) fun us s1 ⟨xs,H1,I1,r,z,q⟩=>⟨by rw[←r.length];exact z,?_⟩)
 have hf:H1 s1.heap.objs.size=none:=I1.hok.fresh (YAQ _)
 refine⟨.ref s1.heap.objs.size,upd H1 s1.heap.objs.size (.lst xs),I1.laid (t':=s1.toks) (fun b u e=>YAB _ e) (YAQ _) ?_,rfl,q _ hf⟩
 exact⟨z,us,0,r,YAG _ rfl⟩
end
abbrev Sp:=List V→Hp→VK→XK→Prop
abbrev CXT:=List Env→Hp→Shared→XK→Value→Shared→Prop
structure Env0 (P:Program)(w:World)(K:PySem.W.Frag)(mg:Str→Option Value)(base:Heap)(A:Around)(outer:List Env)(s:Shared)(H:Hp):Prop where
 frames:A.frames=some outer
 mod:Mod K mg base
 bs:∀b o,base.get? b=some o→s.heap.get? b=some o∧H b=none
 bsz:base.objs.size≤s.heap.objs.size
 funs:s.heap.FunFrames base outer
 frf:∀b∈frs outer,H b=none
 hok:HOk P w H s.heap
 bare:AllBare s.gens
def CE (outer:List Env)(P:Program)(w:World)(H:Hp)(s:Shared)(Q:VK)(u:Value)(s':Shared):Prop:=
 ∃v H',s'.os=s.os∧AllBare s'.gens∧Un (frs outer) [] H H' s.heap s'.heap∧HOk P w H' s'.heap∧RelV v u∧Q v H'
def CR (CX:CXT)(outer:List Env)(P:Program)(w:World)(H:Hp)(s:Shared)(Q:VK)(E:XK)(r:Result)(s':Shared):Prop:=
 match r with
 | .ok (.ret u)=>CE outer P w H s Q u s'
 | .ok _=>False
 | .error e=>CX outer H s E e s'
structure FnOk (P:Program)(w:World)(K:PySem.W.Frag)(mg:Str→Option Value)(base:Heap)(CX:CXT)(k:Nat)(f:Addr)(fd:FuncData)(ps:List Str)(sp:Sp):Prop where
 len:∀vs H Q E,sp vs H Q E→vs.length=ps.length
 run:∀(A:Around) (outer:List Env) (s:Shared) (H:Hp) (args:Args) (us:List Value) (vs:List V) (Q:VK) (E:XK),Room k A→Env0 P w K mg base A outer s H→BindsTo s fd args (ps.zip us)→Vals vs us→sp vs H Q E →
  codeAny (model P w) A (.call (.ref f) args) (CR CX outer P w H s Q E) s
theorem Env0.make {P:Program}{w:World}{K:PySem.W.Frag}{mg:Str→Option Value}{base:Heap}{A:Around}{outer:List Env}{s:Shared}{H:Hp}(e:Env0 P w K mg base A outer s H)(C:Addr)(us:List Value)(kw:List (Str×Value)):
  Env0 P w K mg base (A.under (.builtin "type.__call__" ⟨.ref C::us,kw⟩)) outer s H:=⟨by first | exact e.frames | (simpa [Around.under,Code.envs,Code.isFrame,pushEnvs] using e.frames),e.mod,e.bs,e.bsz,e.funs,e.frf,e.hok,e.bare⟩
section
variable {X:Cx}{pins:List (Addr×Obj)}{σ:St}{H:Hp}{s s':Shared}
theorem Inv.env0 (I:Inv X pins σ H s):Env0 X.prog X.w X.K X.mg X.base X.A X.stack s H:=
 ⟨I.ok.frames,I.ok.mod,I.bs,YAP I.ok.bsz I.sz,I.stack,I.stkFree,I.hok,I.bare⟩
theorem Inv.after {Q:VK}{u:Value}(I:Inv X pins σ H s)(h:CE X.stack X.prog X.w H s Q u s'):EP X pins σ Q u s':=by
 obtain⟨v,H',os,bare,un,hok,r,q⟩:=h
 obtain⟨hh,g,d,t,os'⟩:=s'
 obtain rfl:os'=s.os:=os
 exact⟨v,H',I.call (h':=hh) (g':=g) (d':=d) (t':=t) (ch:=[]) un hok bare (fun b z=>absurd z (by simp)),r,q⟩
end
def Zky (sp:Sp)(dvs:List V)(E:XK)(t:TA):TE:=fun σ H Q=>t σ H fun vs H1=>sp (vs++dvs) H1 Q E
def Zku (C:Addr)(m:Str)(sp:Sp)(dvs:List V)(E:XK)(ta:TE)(t:TA):TE:=fun σ H Q=>ta σ H fun x H1=>∃a dx fs,x=.ref a∧H1 a=some (.ins C dx fs)∧fs.lookup m=none ∧
 t σ H1 fun vs H2=>sp (x::(vs++dvs)) H2 Q E
def ZlT (C:Addr)(sp:Sp)(dvs:List V)(E:XK)(t:TA):TE:=fun σ H Q=>t σ H fun vs H1=>∀x dx,H1 x=none→H1 dx=none→dx≠x →
 sp (.ref x::(vs++dvs)) (upd (upd H1 dx (.own x)) x (.ins C dx [])) (fun v H2=>v=.non∧Q (.ref x) H2) E
def Binds (K:PySem.W.Frag)(fd:FuncData)(ps:List Str)(ds:List Value):Prop:=
 ∀(s:Shared) (us:List Value),K.In s.heap→(us++ds).length=ps.length→BindsTo s fd ⟨us,[]⟩ (ps.zip (us++ds))
theorem Binds.all {K:PySem.W.Frag}{fd:FuncData}{ps:List Str}(h:∀us:List Value,us.length=ps.length→bindArgs fd ⟨us,[]⟩=pure (ps.zip us)):Binds K fd ps []:=fun s us _ hl=>by
 rw[YBt]at hl ⊢
 exact .of_eq (h us hl)
def ZbO (CX:CXT)(X:Cx)(E:XK):Prop:=∀(pins:List (Addr×Obj)) (σ:St) (H:Hp) (s:Shared) (e:Value) (s':Shared),Inv X pins σ H s→CX X.stack H s E e s'→X.xe e s'
section
variable {X:Cx}{CX:CXT}{k:Nat}{f C:Addr}{fd:FuncData}{ps:List Str}{sp:Sp}{dvs:List V}{ds:List Value}{E:XK}{x m:Str}{p pos apos:Pos}{e o:Expr}{es:List Expr}{ta:TE}{t:TA}
theorem Zgh {pins:List (Addr×Obj)}{σ:St}{H:Hp}{s:Shared}{Q:VK}{us:List Value}{vs:List V}(F:FnOk X.prog X.w X.K X.mg X.base CX k f fd ps sp)(hr:Room k X.A)(hb:Binds X.K fd ps ds)(hd:Vals dvs ds)(hx:ZbO CX X E)
  (I:Inv X pins σ H s) (r:Vals vs us) (h:sp (vs++dvs) H Q E):wpAny (model X.prog X.w) X.A (call (.ref f) us) (EP X pins σ Q) X.xe s:=by
 have r2:Vals (vs++dvs) (us++ds):=r.append hd
 have hl:(us++ds).length=ps.length:=by rw[←r2.length];exact F.len _ _ _ _ h
 refine YBx (codeAny_mono (F.run X.A X.stack s H ⟨us,[]⟩ (us++ds) (vs++dvs) Q E hr I.env0 (hb s us I.kIn hl) r2 h) fun r s' hq=>?_)
 cases r with
 | error e=>exact hx pins σ H s e s' I hq
 | ok fl=>
  cases fl with
  | ret u=>exact I.after hq
  | next=>exact False.elim hq
  | brk=>exact False.elim hq
  | cont=>exact False.elim hq
theorem Zan (F:FnOk X.prog X.w X.K X.mg X.base CX k f fd ps sp)(hr:Room k X.A)(hg:Gl X x)(hm:X.mg x=some (.ref f))(hk:PySem.W.keepIn X.K (.ref f)=true)(hb:Binds X.K fd ps ds)(hd:Vals dvs ds)(hx:ZbO CX X E)
  (ha:PA X (e::es) t) (hdb:(x == ("__debug__":Str))=false:=by decide) (he:starEach (e::es) X.env=(false,eval e X.env)::starEach es X.env:=by rfl) (hpl:(backTo pos (starEach es X.env)).any (·.1)=false:=by rfl):
  PE X (.Call (.Name x p) (e::es) [] pos) (Zky sp dvs E t):=by
 intro pins s σ H Q I h
 refine YBJ (Zbv I hg hm ?_ hdb)
 refine YBl (h₀:=X.base) I.ok.mod.kin hk (thn (ha pos pins s σ H _ I h) fun us s1 ⟨vs,H1,I1,r,q⟩=>⟨I1.kIn,?_⟩) he hpl
 exact Zgh F hr hb hd hx I1 r q
theorem Zba {pl:Sem Bool}(he:PE X o ta)(c:Cls X.K C)(hm:Meth X.K C m f)(F:FnOk X.prog X.w X.K X.mg X.base CX k f fd ps sp)(hr:Room k X.A)(hb:Binds X.K fd ps ds)(hd:Vals dvs ds)(hx:ZbO CX X E)(ha:PA X (e::es) t)
  (hst:starEach (e::es) X.env=(false,eval e X.env)::starEach es X.env:=by rfl) (hpl:(backTo pos (starEach es X.env)).any (·.1)=false:=by rfl)
  (ht:eval (.Call (.Attribute o m apos) (e::es) [] pos) X.env=(do
   let ov ←eval o X.env
   standAt apos.atName
   let (f,first) ←holding [ov] (getMethod ov m pl)
   callWith pos f first (backTo pos (starEach (e::es) X.env)) (backToKw pos (keywordEach [] X.env))):=by rfl):
  PE X (.Call (.Attribute o m apos) (e::es) [] pos) (Zku C m sp dvs E ta t):=by
 intro pins s σ H Q I h
 refine YCa (pl:=pl) (thn (he pins s σ H _ I h) fun u s1 ⟨x,H1,I1,rx,a,dx,fs,ex,ea,l,q⟩=>?_) ht
 subst ex
 obtain rfl:u=Value.ref a:=rx
 refine ZcJ I1 ea c hm l ?_
 refine YBl (first:=[.ref a]) (h₀:=X.base) I.ok.mod.kin hm.kp (thn (ha pos pins s1 σ H1 _ I1 q) fun us s2 ⟨vs,H2,I2,r,q2⟩=>⟨I2.kIn,?_⟩) hst hpl
 exact Zgh (us:=.ref a::us) (vs:=.ref a::vs) F hr hb hd hx I2 (.cons rfl r) q2
theorem Zbk {pl:Sem Bool}(he:PE X o ta)(c:Cls X.K C)(hm:Meth X.K C m f)(F:FnOk X.prog X.w X.K X.mg X.base CX k f fd ps sp)(hr:Room k X.A)(hb:Binds X.K fd ps ds)(hd:Vals dvs ds)(hx:ZbO CX X E)
  (ht:eval (.Call (.Attribute o m apos) [] [] pos) X.env=(do
   let ov ←eval o X.env
   standAt apos.atName
   let (f,first) ←holding [ov] (getMethod ov m pl)
   callWith pos f first (backTo pos (starEach [] X.env)) (backToKw pos (keywordEach [] X.env))):=by rfl):
  PE X (.Call (.Attribute o m apos) [] [] pos) (Zku C m sp dvs E ta tNil):=by
 intro pins s σ H Q I h
 refine YCa (pl:=pl) (thn (he pins s σ H _ I h) fun u s1 ⟨x,H1,I1,rx,a,dx,fs,ex,ea,l,q⟩=>?_) ht
 subst ex
 obtain rfl:u=Value.ref a:=rx
 refine ZcJ I1 ea c hm l ?_
 exact PySem.W.callWith_K0 (first:=[.ref a]) I1.kIn hm.kp (Zgh (us:=[.ref a]) (vs:=[.ref a]) F hr hb hd hx I1 (.cons rfl .nil) q)
structure Mk (K:PySem.W.Frag)(C f:Addr):Prop where
 makes:PySem.W.makesIn K C=true
 init:PySem.W.findIn K (.ref C) "__init__"=some (some (.ref f))
 fn:PySem.W.isFn K (.ref f)=true
 kp:PySem.W.keepIn K (.ref C)=true
theorem Zi5 {pins:List (Addr×Obj)}{σ:St}{H:Hp}{s:Shared}{Q:VK}{us:List Value}{vs:List V}(M:Mk X.K C f)(F:FnOk X.prog X.w X.K X.mg X.base CX k f fd ps sp)(hr:Room (k+1) X.A)(hb:Binds X.K fd ps ds)(hd:Vals dvs ds)
  (hx:ZbO CX X E) (I:Inv X pins σ H s) (r:Vals vs us)
  (h:∀x dx,H x=none→H dx=none→dx≠x→sp (.ref x::(vs++dvs)) (upd (upd H dx (.own x)) x (.ins C dx [])) (fun v H2=>v=.non∧Q (.ref x) H2) E):
  wpAny (model X.prog X.w) X.A (call (.ref C) us) (EP X pins σ Q) X.xe s:=by
 have hq:=h (s.heap.objs.size+1) s.heap.objs.size (I.hok.fresh (YCc _)) (I.hok.fresh (YAQ _)) (YAX (Nat.lt_succ_self _))
 have I2:=Inv.made (C:=C) I
 have r2:Vals (V.ref (s.heap.objs.size+1)::(vs++dvs)) (Value.ref (s.heap.objs.size+1)::(us++ds)):=.cons rfl (r.append hd)
 have hl:(Value.ref (s.heap.objs.size+1)::us++ds).length=ps.length:=by
  have e:=r2.length
  rw[F.len _ _ _ _ hq]at e
  exact e.symm
 refine YBx (Zjl (f:=f) I.kIn M.makes M.init (beq_iff_eq.mp M.fn) (codeAny_mono (F.run _ X.stack _ _ ⟨Value.ref (s.heap.objs.size+1)::us,[]⟩ (Value.ref (s.heap.objs.size+1)::(us++ds)) _ _ E (hr.make C us [])
  (I2.env0.make C us []) (hb _ (Value.ref (s.heap.objs.size+1)::us) I2.kIn hl) r2 hq) fun r s' hq'=>?_))
 cases r with
 | error e=>exact hx pins σ _ _ e s' I2 hq'
 | ok fl=>
  cases fl with
  | ret u=>
   obtain⟨v,H',I3,rv,ev,q3⟩:=I2.after hq'
   subst ev
   exact⟨rv,⟨V.ref (s.heap.objs.size+1),H',I3,rfl,q3⟩⟩
  | next=>exact False.elim hq'
  | brk=>exact False.elim hq'
  | cont=>exact False.elim hq'
theorem ZfJ (M:Mk X.K C f)(F:FnOk X.prog X.w X.K X.mg X.base CX k f fd ps sp)(hr:Room (k+1) X.A)(hg:Gl X x)(hm:X.mg x=some (.ref C))(hb:Binds X.K fd ps ds)(hd:Vals dvs ds)(hx:ZbO CX X E)
  (ha:PA X (e::es) t) (hdb:(x == ("__debug__":Str))=false:=by decide) (he:starEach (e::es) X.env=(false,eval e X.env)::starEach es X.env:=by rfl) (hpl:(backTo pos (starEach es X.env)).any (·.1)=false:=by rfl):
  PE X (.Call (.Name x p) (e::es) [] pos) (ZlT C sp dvs E t):=by
 intro pins s σ H Q I h
 refine YBJ (Zbv I hg hm ?_ hdb)
 refine YBl (h₀:=X.base) I.ok.mod.kin M.kp (thn (ha pos pins s σ H _ I h) fun us s1 ⟨vs,H1,I1,r,q⟩=>⟨I1.kIn,?_⟩) he hpl
 exact Zi5 M F hr hb hd hx I1 r q
end
section
variable {X:Cx}{CX:CXT}{k:Nat}{f C:Addr}{fd:FuncData}{ps ks:List Str}{sp:Sp}{E:XK}{x m:Str}{p pos apos kpos:Pos}{e o:Expr}{es:List Expr}{kws:List Keyword}{te ta:TE}{t tk:TA}{nm:Option Str}
variable {g:List Value→List Value→List Value}{gV:List V→List V→List V}
end
structure FnScope (N P:List Str)(sc:Scope):Prop where
 kind:sc.kind=.function
 co:sc.isCoroutine=false
 gen:sc.isGenerator=false
 nd:N.Nodup
 pre:N.take P.length=P
 par:∀x∈P,sc.names.lookup x=some .local∨sc.names.lookup x=some .cell
 nofree:∀y∈sc.names,y.2≠.free
theorem Zfr {kindOf:Str→Option NameKind}{x:Str}:∀ {binds:List (Str×Value)} {m:Str→Option Value},(∀v,(x,v)∉binds)→bindL kindOf binds m x=m x
 | [],_,_=>rfl
 | (n,v)::r,m,h=>by
  unfold bindL
  rw[Zfr fun w hw=>h w (YAW _ hw)]
  split
  ·have:x≠n:=by rintro rfl;exact h v YAa
   simp[this]
  ·rfl
theorem Zft {kindOf:Str→Option NameKind}{x:Str}:∀ {binds:List (Str×Value)} {m:Str→Option Value},(∀v,(x,v)∉binds)→bindC kindOf binds m x=m x
 | [],_,_=>rfl
 | (n,v)::r,m,h=>by
  unfold bindC
  rw[Zft fun w hw=>h w (YAW _ hw)]
  split
  ·rfl
  ·have:x≠n:=by rintro rfl;exact h v YAa
   simp[this]
theorem Zfs {kindOf:Str→Option NameKind}{x:Str}{v:Value}:∀ {P:List Str} {vs:List Value} {i:Nat} {m:Str→Option Value},P.Nodup→P[i]?=some x→vs[i]?=some v→kindOf x=some .local →
  bindL kindOf (P.zip vs) m x=some v
 | [],_,_,_,_,h,_,_=>by simp at h
 | _::_,[],_,_,_,_,h,_=>by simp at h
 | p::P,w::vs,0,m,nd,h1,h2,hk=>by
  simp at h1 h2;subst h1;subst h2
  show bindL kindOf ((p,w)::P.zip vs) m p=_
  unfold bindL
  rw[Zfr fun v hv=>(YBr.mp nd).1 (List.of_mem_zip hv).1,YAO hk]
  simp
 | p::P,w::vs,i+1,m,nd,h1,h2,hk=>by
  show bindL kindOf ((p,w)::P.zip vs) m x=_
  unfold bindL
  exact Zfs (i:=i) (YBr.mp nd).2 (by simpa using h1) (by simpa using h2) hk
theorem Zfu {kindOf:Str→Option NameKind}{x:Str}{v:Value}:∀ {P:List Str} {vs:List Value} {i:Nat} {m:Str→Option Value},P.Nodup→P[i]?=some x→vs[i]?=some v→kindOf x≠some .local →
  bindC kindOf (P.zip vs) m x=some v
 | [],_,_,_,_,h,_,_=>by simp at h
 | _::_,[],_,_,_,_,h,_=>by simp at h
 | p::P,w::vs,0,m,nd,h1,h2,hk=>by
  simp at h1 h2;subst h1;subst h2
  show bindC kindOf ((p,w)::P.zip vs) m p=_
  unfold bindC
  rw[Zft fun v hv=>(YBr.mp nd).1 (List.of_mem_zip hv).1,YAJ hk]
  simp
 | p::P,w::vs,i+1,m,nd,h1,h2,hk=>by
  show bindC kindOf ((p,w)::P.zip vs) m x=_
  unfold bindC
  exact Zfu (i:=i) (YBr.mp nd).2 (by simpa using h1) (by simpa using h2) hk
noncomputable def start (N:List Str)(vs:List V):St:=vs.map some++List.replicate (N.length-vs.length) none
noncomputable def cxOf (CX:CXT)(P:Program)(w:World)(K:PySem.W.Frag)(mg:Str→Option Value)(base:Heap)(N:List Str)(qual:Str)(scope:Scope)(f:Addr)(cd:Value)(A:Around)(outer:List Env)(s:Shared)(H:Hp)(E:XK):Cx where
 prog:=P
 w:=w
 K:=K
 mg:=mg
 base:=base
 A:=A.deeper (envOfC qual scope s.heap.objs.size f cd)
 N:=N
 s₀:=s
 H₀:=H
 env:=envOfC qual scope s.heap.objs.size f cd
 outer:=outer
 stack:=envOfC qual scope s.heap.objs.size f cd::outer
 ex:=[]
 calm:=true
 fn:=fun _=>true
 pn:=[]
 xe:=fun e s'=>wpAny (model P w) (A.deeper (envOfC qual scope s.heap.objs.size f cd)) (leaving (envOfC qual scope s.heap.objs.size f cd) e) (fun _ s''=>CX outer H s E e s'') (fun e' s''=>CX outer H s E e' s'') s'
theorem ZgI {sc:Scope}{n:Nat}{x:Str}(h:sc.names.lookup x=some .cell):∃c,(cellsFrom n sc.names []).lookup x=some c:=by
 have q:=PySem.W.cellsFrom_some sc.names n [] (.inl h)
 exact Option.isSome_iff_exists.mp q
theorem Zip {CX:CXT}{P:Program}{w:World}{K:PySem.W.Frag}{mg:Str→Option Value}{base:Heap}{N ps:List Str}{qual:Str}{scope:Scope}{f:Addr}{cd:Value}{A:Around}{outer:List Env}{s s1:Shared}{H:Hp}{E:XK}{us:List Value}{vs:List V}
  (S:FnScope N ps scope) (hd:A.handled=none) (e0:Env0 P w K mg base A outer s H) (hl:vs.length=ps.length) (r:Vals vs us)
  (x:InCallC s s.heap.objs.size (bindL (envOfC qual scope s.heap.objs.size f cd).kindOf (ps.zip us) fun _=>none) (cellsFrom (s.heap.objs.size+1) scope.names []) (bindC (envOfC qual scope s.heap.objs.size f cd).kindOf (ps.zip us) fun _=>none) s1):
  Inv (cxOf CX P w K mg base N qual scope f cd A outer s H E) [] (start N vs) H s1:=by
 have hpl:ps.length≤N.length:=by have:=congrArg List.length S.pre;rw[YAb]at this;omega
 obtain⟨h1,tk,rfl,hk⟩:=x.done
 have noA:∀b:Addr,b∉(cxOf CX P w K mg base N qual scope f cd A outer s H E).ex:=fun b z=>absurd (show b∈([]:List Addr) from z) (by simp)
 refine⟨⟨e0.mod,S.kind,rfl,rfl,YAQ _,fun y z c h1 h2=>?_,fun y hy=>?_,fun y c _ h=>?_,fun _=>hd,Around.frames_deeper e0.frames,.inr ⟨rfl,rfl⟩,fun b z=>absurd z (noA b),e0.bs,e0.bsz,fun b _ _=>noA b,fun b z=>absurd z (noA b),e0.funs,e0.frf⟩,
  rfl,e0.bare,Un.kept hk,⟨_,x.toInCall.ns,fun i y v h1 h2 h3=>?_⟩,fun y c h=>⟨_,x.cell y c h⟩,e0.hok.fresh (YAQ _),fun y c h=>?_,fun p hp=>absurd (show p∈([]:List (Addr×Obj)) from hp) (by simp),e0.hok.kept hk,?_⟩
 ·exact name_of_addr x.apart (YBM h1) (YBM h2)
 ·have hy:scope.names.lookup y=some .cell∨scope.names.lookup y=some .free:=hy
  rcases hy with hy | hy
  ·exact ZgI hy
  ·exact absurd rfl (S.nofree _ (YBM hy))
 ·exact YCv (x.above y c (YBM h))
 ·have hi:i<vs.length:=by
   unfold start at h2
   by_cases hi:i<vs.length
   ·exact hi
   ·rw[YAg (by simpa using hi)]at h2
    rw[List.getElem?_replicate]at h2
    split at h2<;>cases h2
  have ha:vs[i]?=some v:=by
   unfold start at h2
   rw[YAi (by simpa using hi),YAo]at h2
   cases e:vs[i]? with
   | none=>rw[e]at h2;cases h2
   | some a=>rw[e]at h2;cases h2;rfl
  obtain⟨u,hu,rv⟩:=r.get ha
  have hp:ps[i]?=some y:=by
   rw[←S.pre,List.getElem?_take_of_lt (by omega)];exact h1
  have ndP:ps.Nodup:=by rw[←S.pre];exact S.nd.sublist (YCg _ _)
  refine⟨u,rv,?_⟩
  rcases S.par y (YAr hp) with k | k
  ·exact .inl ⟨k,Zfs ndP hp hu k⟩
  ·obtain⟨c,e⟩:=ZgI (n:=s.heap.objs.size+1) k
   refine .inr ⟨.inl k,c,e,?_⟩
   have q:=x.cell y c e
   rw[Zfu ndP hp hu (by show scope.names.lookup y≠_;rw[k];decide)]at q
   exact q
 ·exact e0.hok.fresh (YCv (x.above y c (YBM h)))
 ·unfold start
  show _=N.length
  rw[YAF,YAE,List.length_replicate]
  omega
theorem Zls {CX:CXT}{P:Program}{w:World}{K:PySem.W.Frag}{mg:Str→Option Value}{base:Heap}{k:Nat}{f:Addr}{name qual:Str}{params:Arguments}{body:List Stmt}{scope:Scope}{dV kV doc pm cdv ct oc:Value}{an od:Option Addr}
  {osl:Array (Option Value)} {N ps:List Str} {sp:Sp} (lk:K.lookup f=some ⟨oc,od,.func (PySem.W.fnOf name qual params body scope dV kV doc pm an cdv ct),osl⟩) (hcd:PySem.W.codeIn K cdv qual=true) (S:FnScope N ps scope)
  (len:∀vs H Q E,sp vs H Q E→vs.length=ps.length)
  (hbody:∀(A:Around) (outer:List Env) (s:Shared) (H:Hp) (vs:List V) (Q:VK) (E:XK),Room k (A.deeper (envOfC qual scope s.heap.objs.size f cdv))→sp vs H Q E →
   ∃t,PSs (cxOf CX P w K mg base N qual scope f cdv A outer s H E) body t∧t { nx:=fun _ H'=>Q .non H',rt:=Q } (start N vs) H):
  FnOk P w K mg base CX (k+1) f (PySem.W.fnOf name qual params body scope dV kV doc pm an cdv ct) ps sp:=by
 refine⟨len,fun A outer s H args us vs Q E hr e0 hb r hsp=>?_⟩
 have hl:=len _ _ _ _ hsp
 have KX:K.In s.heap:=e0.mod.kin.keeps fun b o e=>(e0.bs b o e).1
 have lim:s.heap.NoLimit:=e0.mod.nolimit.keeps fun b o e=>(e0.bs b o e).1
 have hkind:∀y∈ps.zip us,scope.names.lookup y.1=some .local∨(scope.names.lookup y.1=some .cell∧((cellsFrom (s.heap.objs.size+1) scope.names []).lookup y.1).isSome=true):=fun ⟨n,v⟩ hy=>by
  rcases S.par n (List.of_mem_zip hy).1 with q | q
  ·exact .inl q
  ·exact .inr ⟨q,PySem.W.cellsFrom_some _ _ _ (.inl q)⟩
 refine codeAny_call_function hr.depth (KX _ _ lk) rfl S.co S.gen rfl (PySem.W.codeRec_of KX hcd) (hb _ _ _ _ ?_)
 refine wpAny_newFunctionEnv_cells S.kind hkind fun env he s1 x=>?_
 subst he
 refine⟨lim.keeps x.toInCall.keep,codeAny_func ?_⟩
 obtain⟨t,ht,hq⟩:=hbody A outer s H vs Q E (hr.deeper _) hsp
 have I:Inv (cxOf CX P w K mg base N qual scope f cdv A outer s H E) [] (start N vs) H s1:=Zip S hr.hd e0 hl r x
 refine YBF (ht [] s1 (start N vs) H _ I hq) (fun fl s' hs=>?_) fun e s' hs=>hs
 have fin:∀ {σ':St} {H':Hp} {v:V} {u:Value},Inv (cxOf CX P w K mg base N qual scope f cdv A outer s H E) [] σ' H' s'→RelV v u→Q v H'→CE outer P w H s Q u s':=
  fun {σ' H' v u} J rv q=>⟨v,H',J.os,J.bare,J.base,J.hok,rv,q⟩
 cases fl with
 | ret u=>
  obtain⟨v,σ',H',J,rv,q⟩:=hs
  exact fin J rv q
 | next=>
  obtain⟨σ',H',J,q⟩:=hs
  exact fin (v:=V.non) (u:=Value.none) J rfl q
 | brk=>
  obtain⟨_,_,_,q⟩:=hs
  exact False.elim q
 | cont=>
  obtain⟨_,_,_,q⟩:=hs
  exact False.elim q
section
variable {X:Cx}{x:Str}{p pos:Pos}{e:Expr}{es:List Expr}{t:TA}{id T:String}{r:List V→Hp→VK→Prop}
def tCB (r:List V→Hp→VK→Prop)(t:TA):TE:=fun σ H Q=>t σ H fun vs H1=>r vs H1 Q
theorem Zai (hc:ZcD X (.builtin id) r) (hg:Gl X x) (hm:X.mg x=none) (hv:bootBuiltins x=some (.builtin id)) (ha:PA X (e::es) t) (hn:x≠"__name__":=by decide) (hdb:(x == ("__debug__":Str))=false:=by decide)
  (he:starEach (e::es) X.env=(false,eval e X.env)::starEach es X.env:=by rfl) (hpl:(backTo pos (starEach es X.env)).any (·.1)=false:=by rfl):PE X (.Call (.Name x p) (e::es) [] pos) (tCB r t):=by
 intro pins s σ H Q I h
 refine YBJ (Zdu I hg hm hv ?_ hn hdb)
 exact YDC (thn (ha pos pins s σ H _ I h) fun us s1 ⟨vs,H1,I1,r1,q1⟩=>hc pins s1 σ H1 vs us Q I1 r1 q1) he hpl
theorem ZbC (hc:ZcD X (.type T) r) (hg:Gl X x) (hm:X.mg x=none) (hv:bootBuiltins x=some (.type T)) (ha:PA X (e::es) t) (hn:x≠"__name__":=by decide) (hdb:(x == ("__debug__":Str))=false:=by decide)
  (he:starEach (e::es) X.env=(false,eval e X.env)::starEach es X.env:=by rfl) (hpl:(backTo pos (starEach es X.env)).any (·.1)=false:=by rfl):PE X (.Call (.Name x p) (e::es) [] pos) (tCB r t):=by
 intro pins s σ H Q I h
 refine YBJ (Zdu I hg hm hv ?_ hn hdb)
 exact YCb (thn (ha pos pins s σ H _ I h) fun us s1 ⟨vs,H1,I1,r1,q1⟩=>hc pins s1 σ H1 vs us Q I1 r1 q1) he hpl
end
end L2
namespace HT
open PySem PyProof.Rows
section
open PySem.SeqAt
open PySem.AutoSeq1 (wpAny_loadPart')
open PySem.MeetsSeq PySem.MeetsSeq2 PySem.MeetsSeq3
end
section
variable {prog:Program}{w:World}{A:Around}{E:Value→Shared→Prop}{s:Shared}
noncomputable def sIx (n d:Nat):Option Int→Nat
 | none=>d
 | some v=>if v<0 then (v+(n:Int)).toNat else min v.toNat n
theorem sIx_none (n d:Nat):sIx n d none=d:=rfl
theorem sIx_nat (n d k:Nat):sIx n d (some (k:Int))=min k n:=by
 show (if (k:Int)<0 then ((k:Int)+(n:Int)).toNat else min (k:Int).toNat n)=min k n
 rw[YAJ (by omega),YBa]
theorem sIx_le (n d:Nat)(hd:d≤n)(o:Option Int):sIx n d o≤n:=by
 cases o with
 | none=>exact hd
 | some v=>
  show (if v<0 then (v+(n:Int)).toNat else min v.toNat n)≤n
  by_cases hv:v<0
  ·rw[YAO hv];omega
  ·rw[YAJ hv];exact Nat.min_le_right _ _
theorem clip_eq (v:Int)(n d:Nat):(if v<0 then max (v+(n:Int)) 0 else min v (n:Int))=((sIx n d (some v):Nat):Int):=by
 show (if v<0 then max (v+(n:Int)) 0 else min v (n:Int))=(((if v<0 then (v+(n:Int)).toNat else min v.toNat n):Nat):Int)
 by_cases hv:v<0
 ·simp only[YAO hv];omega
 ·simp only[YAJ hv];omega
end
end HT
namespace L2
open PySem PySem.Spec PyProof.Rows
abbrev TO:=St→Hp→(Option Int→Hp→Prop)→Prop
def PO (X:Cx)(e:Option Expr)(t:TO):Prop:=
 ∀(pins:List (Addr×Obj)) (s:Shared) (σ:St) (H:Hp) (Q:Option Int→Hp→Prop),Inv X pins σ H s→t σ H Q →
  wpAny (model X.prog X.w) X.A (evalPart e X.env) (fun u s'=>∃o H',Inv X pins σ H' s'∧IsPart u o∧Q o H') X.xe s
def tNoPart:TO:=fun _ H Q=>Q none H
def ZlQ (t:TE):TO:=fun σ H Q=>t σ H fun x H1=>∃i,x=.int i∧Q (some i) H1
section
variable {X:Cx}{e:Expr}{te:TE}{lo hi:Option Expr}{tl th:TO}{pos p2:Pos}
theorem Za0:PO X none tNoPart:=by
 intro pins s σ H Q I h
 rw[evalPart_none]
 exact YAD ⟨none,H,I,.none,h⟩
theorem ZaE (h:PE X e te):PO X (some e) (ZlQ te):=by
 intro pins s σ H Q I hw
 rw[evalPart_some]
 refine thn (h pins s σ H _ I hw) fun u s1 ⟨x,H1,I1,r1,q1⟩=>?_
 obtain⟨i,rfl,q⟩:=q1
 obtain⟨t,rfl⟩:=r1
 exact⟨some i,H1,I1,.int i t,q⟩
def SlR (X:Cx)(r:V→Option Int→Option Int→Hp→VK→Prop):Prop:=
 ∀(pins:List (Addr×Obj)) (s:Shared) (σ:St) (H:Hp) (x:V) (v vl vu:Value) (lo hi:Option Int) (sl:Addr) (Q:VK),Inv X pins σ H s→RelV x v→s.heap.IsSliceOf sl vl vu .none→IsPart vl lo→IsPart vu hi→r x lo hi H Q →
  ∃T id,typeLookup (.type T) "__getitem__"=pure (some (.builtin id))∧s.TypeIs v T∧wpAny (model X.prog X.w) X.A (getItem v (.ref sl)) (EP X pins σ Q) X.xe s
def tSl (r:V→Option Int→Option Int→Hp→VK→Prop)(te:TE)(tl th:TO):TE:=fun σ H Q=>te σ H fun x H1=>tl σ H1 fun l H2=>th σ H2 fun u H3=>r x l u H3 Q
theorem ZaC {r:V→Option Int→Option Int→Hp→VK→Prop}(hr:SlR X r)(he:PE X e te)(hl:PO X lo tl)(hu:PO X hi th):PE X (.Subscript e (.Slice lo hi none p2) pos) (tSl r te tl th):=by
 intro pins s σ H Q I h
 refine Subscript_ (thn (he pins s σ H _ I h) fun v s1 ⟨x,H1,I1,r1,q1⟩=>?_)
 refine wpAny_Slice (thn (hl pins s1 σ H1 _ I1 q1) fun vl s2 ⟨l,H2,I2,pl,q2⟩=>thn (hu pins s2 σ H2 _ I2 q2) fun vu s3 ⟨u,H3,I3,pu,q3⟩=>?_)
 rw[evalPart_none]
 refine YAD ?_
 have I4:Inv X pins σ H3 { s3 with heap:=s3.heap.push { cls:=.type "slice",data:=.fields #[vl,vu,.none] } }:=I3.kept (t':=s3.toks) fun b ob q=>YAB _ q
 obtain⟨T,id,hT,ht,hg⟩:=hr pins { s3 with heap:=s3.heap.push { cls:=.type "slice",data:=.fields #[vl,vu,.none] } } σ H3 x v vl vu l u s3.heap.objs.size Q I4 r1 (Heap.IsSliceOf.new ..) pl pu q3
 show wpAny (model X.prog X.w) X.A (subscriptTail e (.Slice lo hi none p2) v (.ref s3.heap.objs.size)) (EP X pins σ Q) X.xe { s3 with heap:=s3.heap.push { cls:=.type "slice",data:=.fields #[vl,vu,.none] } }
 exact tail_any (ops:=[.ref s3.heap.objs.size,v]) ht hT hg (by with_unfolding_all rfl)
noncomputable def cutV (xs:List V)(lo hi:Option Int):List V:=(xs.drop (HT.sIx xs.length 0 lo)).take (HT.sIx xs.length xs.length hi-HT.sIx xs.length 0 lo)
theorem ZfZ (xs:List V)(lo hi:Option Int):(cutV xs lo hi).length≤xs.length:=by
 unfold cutV
 rw[YAb,YAm]
 omega
end
end L2
namespace L2
open PySem PySem.Spec PyProof.Rows
noncomputable def ixN (n:Nat)(i:Int):Option Nat:=if 0≤i then (if i<n then some i.toNat else none) else if -(n:Int)≤i then some (i+n).toNat else none
noncomputable def atI {α:Type}(xs:List α)(i:Int):Option α:=(ixN xs.length i).bind fun j=>xs[j]?
theorem Zlh {n:Nat}{i:Int}{j:Nat}(h:ixN n i=some j):seqIndex? i n=some j∧j<n∧-(n:Int)≤i∧i<n:=by
 unfold ixN at h
 by_cases h0:0≤i
 ·rw[YAO h0]at h
  by_cases h1:i<n
  ·rw[YAO h1]at h
   have e:i.toNat=j:=Option.some.inj h
   exact⟨by rw[seqIndex_of h0 h1,e],by omega,by omega,h1⟩
  ·rw[YAJ h1]at h;cases h
 ·rw[YAJ h0]at h
  by_cases h1:-(n:Int)≤i
  ·rw[YAO h1]at h
   have e:(i+n).toNat=j:=Option.some.inj h
   exact⟨by rw[seqIndex_neg (by omega) h1,e],by omega,h1,by omega⟩
  ·rw[YAJ h1]at h;cases h
theorem Zf3 {α:Type}{xs:List α}{i:Int}{v:α}(h:atI xs i=some v):∃j,seqIndex? i xs.length=some j∧xs[j]?=some v∧j<xs.length∧-(xs.length:Int)≤i∧i<xs.length:=by
 unfold atI at h
 cases e:ixN xs.length i with
 | none=>rw[e]at h;cases h
 | some j=>
  rw[e]at h
  obtain⟨h1,h2,h3,h4⟩:=Zlh e
  exact⟨j,h1,h,h2,h3,h4⟩
theorem ZeC {α:Type}(xs:List α)(v:α):atI (xs++[v]) (-1)=some v:=by
 have hl:(xs++[v]).length=xs.length+1:=by simp
 have e:ixN (xs++[v]).length (-1)=some xs.length:=by
  unfold ixN
  rw[hl,YAJ (by decide),YAO (by omega)]
  congr 1
  omega
 unfold atI
 rw[e]
 show (xs++[v])[xs.length]?=some v
 simp
def ZlI (b:Expr):Prop:=∀o i,subscripted b false o i=operate [o,i] (getItem o i)
def IxR (X:Cx)(r:R2):Prop:=
 ∀(value slice:Expr) (pins:List (Addr×Obj)) (s:Shared) (σ:St) (H:Hp) (x y:V) (v u:Value) (Q:VK),Inv X pins σ H s→RelV x v→RelV y u→r x y H Q →
  subscripted slice false v u=operate [v,u] (getItem v u)→wpAny (model X.prog X.w) X.A (subscriptTail value slice v u) (EP X pins σ Q) X.xe s
def MtR (X:Cx)(id:String)(r:V→List V→Hp→VK→Prop):Prop:=
 ∀(pins:List (Addr×Obj)) (s:Shared) (σ:St) (H:Hp) (x:V) (xs:List V) (v:Value) (us:List Value) (Q:VK),Inv X pins σ H s→RelV x v→Vals xs us→r x xs H Q →
  wpAny (model X.prog X.w) X.A (call (.builtin id) (v::us)) (EP X pins σ Q) X.xe s
section
variable {X:Cx}{a b:Expr}{ta tb:TE}{pos:Pos}
theorem Zbg {r:R2}(hr:IxR X r)(ha:PE X a ta)(hb:PE X b tb)(hs:ZlI b):PE X (.Subscript a b pos) (tOp r ta tb):=by
 intro pins s σ H Q I h
 exact Subscript_ (binT ha hb I h fun v u s2 x y H2 I2 rx ry q=>hr a b pins s2 σ H2 x y v u Q I2 rx ry q (hs _ _))
def rIxL (K:PySem.W.Frag):R2:=fun x y H Q=>∃p xs i v,x=.ref p∧y=.int i∧SqL K H p xs∧atI xs i=some v∧Q v H
def rIxT (K:PySem.W.Frag):R2:=fun x y H Q=>∃p xs i v,x=.ref p∧y=.int i∧SqT K H p xs∧atI xs i=some v∧Q v H
def rIxS:R2:=fun x y H Q=>∃z i c,x=.str z∧y=.int i∧z.length≤sizeLine∧atI z.cps.toList i=some c∧Q (.str ⟨#[c]⟩) H
theorem Zlg:IxR X (rIxL X.K):=by
 intro value slice pins s σ H x y v u Q I rx ry h hs
 obtain⟨p,xs,i,z,rfl,rfl,hq,he,q⟩:=h
 cases rx
 obtain⟨t,rfl⟩:=ry
 obtain⟨its,r,pl,hz⟩:=I.list hq
 obtain⟨j,h1,h2,h3,h4,h5⟩:=Zf3 he
 obtain⟨w,ew,rw'⟩:=r.get h2
 have hl:=r.length
 have hn:=Ze7
 have fin:EP X pins σ Q w s:=⟨z,H,I,rw',q⟩
 by_cases h0:0≤i
 ·have hj:i.toNat=j:=by
   rw[seqIndex_of h0 h5]at h1
   exact Option.some.inj h1
  exact item_listR pl.isList h0 (by omega) (by rw[hj];simpa using ew) fin hs
 ·have hj:(i+(its.toArray.size:Int)).toNat=j:=by
   rw[seqIndex_neg (by omega) h4]at h1
   rw[YAI,←hl]
   exact Option.some.inj h1
  exact subscriptTail_builtinR (x:=w) pl.isList.typeIs slot_list_getitem.lookup
   (wpAny_getItem_list_neg (Q:=fun r s'=>r=w∧EP X pins σ Q r s') pl.isList (by omega) (by rw[YAI]<;>omega) (by omega) (by rw[hj];simpa using ew) ⟨rfl,fin⟩) hs
theorem Zng:IxR X (rIxT X.K):=by
 intro value slice pins s σ H x y v u Q I rx ry h hs
 obtain⟨p,xs,i,z,rfl,rfl,hq,he,q⟩:=h
 cases rx
 obtain⟨t,rfl⟩:=ry
 obtain⟨its,r,pl,hz⟩:=I.tuple hq
 obtain⟨j,h1,h2,h3,h4,h5⟩:=Zf3 he
 obtain⟨w,ew,rw'⟩:=r.get h2
 have hl:=r.length
 have hn:=Ze7
 have fin:EP X pins σ Q w s:=⟨z,H,I,rw',q⟩
 exact subscriptTail_builtinR (x:=w) pl.typeIs slot_tuple_getitem.lookup
  (getItem_tuple (j:=j) (Q:=fun r s'=>r=w∧EP X pins σ Q r s') pl (by omega) (by omega) (by rw[YAI,←hl];exact h1) (by simpa using ew) ⟨rfl,fin⟩) hs
theorem Znh:IxR X rIxS:=by
 intro value slice pins s σ H x y v u Q I rx ry h hs
 obtain⟨z,i,c,rfl,rfl,hz,he,q⟩:=h
 obtain⟨t,rfl⟩:=rx
 obtain⟨t',rfl⟩:=ry
 obtain⟨j,h1,h2,h3,h4,h5⟩:=Zf3 he
 have hl:z.cps.toList.length=z.length:=by simp[Str.length]
 rw[hl]at h1 h4 h5
 have hn:=Ze7
 exact tail_any (typeIs_str s z t) slot_str_getitem.lookup (getItem_str (c:=c) (by
  have e1:decide (i < -(2 ^ 63:Int))=false:=decide_eq_false (by omega)
  have e2:decide (i≥2 ^ 63)=false:=decide_eq_false (by omega)
  rw[e1,e2,Bool.or_false]) (by rw[h1];simpa using h2) ⟨.str ⟨#[c]⟩,H,I.tok _,⟨_,rfl⟩,q⟩) hs
theorem ZeN (lo hi:Option Int)(n:Nat):(sliceBounds lo hi none n).1=((HT.sIx n 0 lo:Nat):Int)∧(sliceBounds lo hi none n).2.1=((HT.sIx n n hi:Nat):Int)∧(sliceBounds lo hi none n).2.2=1:=by
 refine⟨?_,?_,rfl⟩
 ·cases lo with
  | none=>simp[sliceBounds,HT.sIx]
  | some i=>
   simp only[sliceBounds,HT.sIx,Option.getD_none,show (1:Int)>0 by decide,if_true]
   by_cases h:i<0
   ·simp only[h,if_true]<;>omega
   ·simp only[h,if_false]<;>omega
 ·cases hi with
  | none=>simp[sliceBounds,HT.sIx]
  | some i=>
   simp only[sliceBounds,HT.sIx,Option.getD_none,show (1:Int)>0 by decide,if_true]
   by_cases h:i<0
   ·simp only[h,if_true]<;>omega
   ·simp only[h,if_false]<;>omega
theorem Zea (its:List Value)(lo hi:Option Int):slicePick its.toArray lo hi none=((its.drop (HT.sIx its.length 0 lo)).take (HT.sIx its.length its.length hi-HT.sIx its.length 0 lo)).toArray:=by
 obtain⟨h1,h2,h3⟩:=ZeN lo hi its.toArray.size
 unfold slicePick
 rw[h1,h2,h3]
 simp only[sliceRange_one,pick_run,YAI]<;>rfl
def rSlL (K:PySem.W.Frag):V→Option Int→Option Int→Hp→VK→Prop:=fun x lo hi H Q=>∃a xs,x=.ref a∧SqL K H a xs∧∀p,H p=none→Q (.ref p) (upd H p (.lst (cutV xs lo hi)))
theorem ZkC:SlR X (rSlL X.K):=by
 intro pins s σ H x v vl vu lo hi sl Q I rx hs pl pu h
 obtain⟨a,xs,rfl,hx,q⟩:=h
 cases rx
 obtain⟨its,r,ht,hz⟩:=I.list hx
 have hlen:=r.length
 refine⟨"list",_,slot_list_getitem.lookup,ht.isList.typeIs,?_⟩
 refine wpAny_getItem_list_slice ht.isList hs pl pu .none (by simp) ?_ (by rw[YAI]<;>omega)
 rw[Zea,←hlen]
 refine⟨.ref s.heap.objs.size,_,I.laid (t':=s.toks) (o:=.lst (cutV xs lo hi)) (fun b ob q=>YAB _ q) (YAQ _) ?_,rfl,q _ (I.hok.fresh (YAQ _))⟩
 exact⟨YAP (ZfZ xs lo hi) hz,_,0,(r.drop (HT.sIx xs.length 0 lo)).take (HT.sIx xs.length xs.length hi-HT.sIx xs.length 0 lo),YAG _ rfl⟩
noncomputable def Zbb:V→Bool
 | .non=>true
 | .bl _=>true
 | .int _=>true
 | .str _=>true
 | _=>false
noncomputable def eqV:V→V→Bool
 | .non,.non=>true
 | .bl a,.bl b=>a == b
 | .bl a,.int b=>(if a then 1 else 0) == b
 | .int a,.bl b=>a == (if b then 1 else 0)
 | .int a,.int b=>a == b
 | .str a,.str b=>a == b
 | _,_=>false
theorem Zkh {A:Around}{s:Shared}{y x:V}{u v:Value}(ry:RelV y u)(rx:RelV x v)(fy:Zbb y=true)(fx:Zbb x=true):SeqAt.EqAt A s u v (eqV y x):=by
 cases y with
 | non=>
  cases ry
  cases x with
  | non=>cases rx;exact SeqAt.EqAt.same _
  | bl b=>cases rx;exact SeqAt.EqAt.none_bool b
  | int b=>obtain⟨t,rfl⟩:=rx;exact SeqAt.EqAt.none_int b t
  | str b=>obtain⟨t,rfl⟩:=rx;exact SeqAt.EqAt.none_str b t
  | _=>exact absurd (show false=true from fx) YAC
 | bl a=>
  cases ry
  cases x with
  | non=>cases rx;exact SeqAt.EqAt.bool_none a
  | bl b=>cases rx;exact SeqAt.EqAt.bool_bool a b
  | int b=>obtain⟨t,rfl⟩:=rx;exact SeqAt.EqAt.bool_int a b t
  | str b=>obtain⟨t,rfl⟩:=rx;exact SeqAt.EqAt.bool_str a b t
  | _=>exact absurd (show false=true from fx) YAC
 | int a=>
  obtain⟨t',rfl⟩:=ry
  cases x with
  | non=>cases rx;exact SeqAt.EqAt.int_none a t'
  | bl b=>cases rx;exact SeqAt.EqAt.int_bool a t' b
  | int b=>obtain⟨t,rfl⟩:=rx;exact SeqAt.EqAt.int_int a t' b t
  | str b=>obtain⟨t,rfl⟩:=rx;exact SeqAt.EqAt.int_str a t' b t
  | _=>exact absurd (show false=true from fx) YAC
 | str a=>
  obtain⟨t',rfl⟩:=ry
  cases x with
  | non=>cases rx;exact SeqAt.EqAt.str_none a t'
  | bl b=>cases rx;exact SeqAt.EqAt.str_bool a t' b
  | int b=>obtain⟨t,rfl⟩:=rx;exact SeqAt.EqAt.str_int a t' b t
  | str b=>obtain⟨t,rfl⟩:=rx;exact SeqAt.EqAt.str_str a t' b t
  | _=>exact absurd (show false=true from fx) YAC
 | _=>exact absurd (show false=true from fy) YAC
noncomputable def eqU (x:V)(u:Value):Bool:=match u with
 | .none=>eqV .non x
 | .bool b=>eqV (.bl b) x
 | .int i _=>eqV (.int i) x
 | .str z _=>eqV (.str z) x
 | _=>false
theorem Zkg {x y:V}{u:Value}(r:RelV y u)(f:Zbb y=true):eqU x u=eqV y x:=by
 cases y with
 | non=>cases r;rfl
 | bl b=>cases r;rfl
 | int i=>obtain⟨t,rfl⟩:=r;rfl
 | str z=>obtain⟨t,rfl⟩:=r;rfl
 | _=>exact absurd (show false=true from f) YAC
theorem Zf5 {x:V}:∀ {xs:List V} {us:List Value},Vals xs us→xs.all Zbb=true→us.any (eqU x)=xs.any fun y=>eqV y x
 | _,_,.nil,_=>rfl
 | y::xs,u::us,.cons r t,f=>by
  rw[List.all_cons,YAR]at f
  rw[List.any_cons,List.any_cons,Zkg r f.1,Zf5 t f.2]
theorem Zek {A:Around}{s:Shared}{x:V}{v:Value}(rx:RelV x v)(fx:Zbb x=true):∀ {xs:List V} {us:List Value},Vals xs us→xs.all Zbb=true→∀u∈us,SeqAt.EqAt A s u v (eqU x u)
 | _,_,.nil,_=>fun u hu=>by cases hu
 | y::xs,u::us,.cons r t,f=>fun u' hu=>by
  rw[List.all_cons,YAR]at f
  rcases YAK.mp hu with rfl | hu
  ·rw[Zkg r f.1];exact Zkh r rx f.1 fx
  ·exact Zek rx fx t f.2 u' hu
noncomputable def inV (x:V)(xs:List V):Bool:=xs.any fun y=>eqV y x
def rIn (K:PySem.W.Frag)(neg:Bool):R2:=fun x y H Q=>∃p xs,y=.ref p∧(SqL K H p xs∨SqT K H p xs)∧Zbb x=true∧xs.all Zbb=true∧Q (.bl (if neg then !inV x xs else inV x xs)) H
theorem ZeV:OpR X (compareOp .NotIn) (rIn X.K true):=by
 intro pins s σ H x y v u Q I rx ry h
 obtain⟨p,xs,rfl,hq,fx,fs,q⟩:=h
 cases ry
 rcases hq with hq | hq
 ·obtain⟨its,r,pl,hz⟩:=I.list hq
  refine SeqAt.notIn_listAt (eqU x) pl.isList (fun w hw=>Zek rx fx r fs w (by simpa using hw)) ⟨.bl _,H,I,rfl,?_⟩
  rw[show its.toArray.any (eqU x)=its.any (eqU x) by simp,Zf5 r fs]
  exact q
 ·obtain⟨its,r,pl,hz⟩:=I.tuple hq
  refine SeqAt.notIn_tupleAt (eqU x) pl (fun w hw=>Zek rx fx r fs w (by simpa using hw)) ⟨.bl _,H,I,rfl,?_⟩
  rw[show its.toArray.any (eqU x)=its.any (eqU x) by simp,Zf5 r fs]
  exact q
def tyV (K:PySem.W.Frag)(T:String)(x:V)(H:Hp):Prop:=match x with
 | .str _=>T="str"
 | .int _=>T="int"
 | .ref p=>(T="list"∧∃xs,SqL K H p xs)∨(T="tuple"∧∃o,K.lookup p=some o∧o.cls=.type "tuple"∧o.dict=none) ∨
   (T="dict"∧((∃kvs,H p=some (.dK kvs))∨∃kvs,H p=some (.dT kvs)))∨(T="set"∧∃S n,H p=some (.set S n))
 | _=>False
theorem ZjN {pins:List (Addr×Obj)}{σ:St}{H:Hp}{s:Shared}{T:String}{x:V}{v:Value}(I:Inv X pins σ H s)(r:RelV x v)(ty:tyV X.K T x H):
  s.TypeIs v T∧∀a,v=.ref a→∃ob,s.heap.get? a=some ob∧ob.dict=none:=by
 cases x with
 | str z=>
  obtain⟨t,rfl⟩:=r
  cases (show T="str" from ty)
  exact⟨typeIs_str s z t,fun _ e=>nomatch e⟩
 | int i=>
  obtain⟨t,rfl⟩:=r
  cases (show T="int" from ty)
  exact⟨typeIs_int s i t,fun _ e=>nomatch e⟩
 | ref p=>
  cases r
  rcases ty with⟨rfl,xs,hq⟩|⟨rfl,o,hk,hc,hd⟩|⟨rfl,hk⟩|⟨rfl,S,n,hk⟩
  ·obtain⟨its,_,pl,_⟩:=I.list hq
   refine⟨pl.isList.typeIs,fun a e=>?_⟩
   cases e
   obtain⟨o,n,e,c,hd,_⟩:=pl
   exact⟨o,e,hd⟩
  ·refine⟨⟨o,I.kIn p o hk,hc⟩,fun a e=>?_⟩
   cases e
   exact⟨o,I.kIn _ o hk,hd⟩
  ·have z:∃o,s.heap.get? p=some o∧o.ExactDict:=by
    rcases hk with⟨kvs,hk⟩|⟨kvs,hk⟩
    ·obtain⟨_,_,_,_,o,_,_,e,ex,_⟩:=I.hok p _ hk
     exact⟨o,e,ex⟩
    ·obtain⟨_,_,_,_,o,_,_,e,ex,_⟩:=I.hok p _ hk
     exact⟨o,e,ex⟩
   obtain⟨o,e,ex⟩:=z
   refine⟨⟨o,e,ex.1⟩,fun a e2=>?_⟩
   cases e2
   exact⟨o,e,ex.2.1⟩
  ·obtain⟨o,_,_,_,e,ex,_⟩:=I.hok p _ hk
   refine⟨⟨o,e,ex.1⟩,fun a e2=>?_⟩
   cases e2
   exact⟨o,e,ex.2.1⟩
 | _=>exact False.elim ty
def tBM0 (K:PySem.W.Frag)(T:String)(r:V→List V→Hp→VK→Prop)(to:TE):TE:=fun σ H Q=>to σ H fun x H1=>tyV K T x H1∧r x [] H1 Q
def tBM (K:PySem.W.Frag)(T:String)(r:V→List V→Hp→VK→Prop)(to:TE)(t:TA):TE:=fun σ H Q=>to σ H fun x H1=>tyV K T x H1∧t σ H1 fun xs H2=>r x xs H2 Q
variable {o e:Expr}{es:List Expr}{to:TE}{t:TA}{name:Str}{apos cpos:Pos}{T id:String}{r:V→List V→Hp→VK→Prop}
theorem Zj2 (pa:PlainAttrs T) (slot:Slot T name id) (hty:typeOf (.builtin id)=pure (.type "method_descriptor")) (hm:MtR X id r) (ho:PE X o to)
  (hbase:attributeBase o name X.env (eval o X.env)=eval o X.env:=by rfl) (hline:(apos.endLine == cpos.line)=true:=by rfl):PE X (.Call (.Attribute o name apos) [] [] cpos) (tBM0 X.K T r to):=by
 intro pins s σ H Q I h
 refine wpAny_Call_method0_late hbase hline (thn (ho pins s σ H _ I h) fun v s1 ⟨x,H1,I1,r1,ty,q1⟩=>?_)
 obtain⟨h1,h2⟩:=ZjN I1 r1 ty
 exact⟨T,id,pa,slot,hty,h1,h2,Calls.callWith_builtin rfl (PySem.evalArgs_none (hm pins s1 σ H1 x [] v [] Q I1 r1 .nil q1))⟩
theorem ZeU (pa:PlainAttrs T) (slot:Slot T name id) (hty:typeOf (.builtin id)=pure (.type "method_descriptor")) (hm:MtR X id r) (ho:PE X o to) (ha:PA X (e::es) t)
  (hbase:attributeBase o name X.env (eval o X.env)=eval o X.env:=by rfl)
  (hfew:((backTo cpos (starEach (e::es) X.env)).all (fun x=>!x.1)&&(backToKw cpos (keywordEach [] X.env)).all (fun x=>x.1.isSome)
   && decide ((e::es).length+([]:List Keyword).length+(if ([]:List Keyword).isEmpty then 0 else 1)<30))=true:=by rfl)
  (hline:(apos.endLine == cpos.line)=true:=by rfl) (hs:starEach (e::es) X.env=(false,eval e X.env)::starEach es X.env:=by rfl) (hplain:(backTo cpos (starEach es X.env)).any (·.1)=false:=by rfl):
  PE X (.Call (.Attribute o name apos) (e::es) [] cpos) (tBM X.K T r to t):=by
 intro pins s σ H Q I h
 refine wpAny_Call_method_late hbase hfew hline rfl (thn (ho pins s σ H _ I h) fun v s1 ⟨x,H1,I1,r1,ty,q1⟩=>?_)
 obtain⟨h1,h2⟩:=ZjN I1 r1 ty
 refine⟨T,id,pa,slot,hty,h1,h2,?_⟩
 have hA:=ha cpos pins s1 σ H1 _ I1 q1
 rw[hs]at hA ⊢
 refine Calls.callWith_builtin (by show (false || (backTo cpos (starEach es X.env)).any (·.1))=false;rw[hplain]<;>rfl) (Calls.evalArgs_plain ?_)
 exact thn hA fun us s2 ⟨vs,H2,I2,r2,q2⟩=>hm pins s2 σ H2 x vs v us Q I2 r1 r2 q2
end
def MtM (X:Cx)(id:String)(r:V→List V→Hp→VK→Prop):Prop:=
 ∀(pins:List (Addr×Obj)) (s:Shared) (σ:St) (H:Hp) (x:V) (xs:List V) (v:Value) (us:List Value) (Q:VK),Inv X pins σ H s→RelV x v→Vals xs us→r x xs H Q →
  wpAny (model X.prog X.w) X.A (call (.builtin id) (v::us)) (EP X pins σ Q) X.xe s
theorem Vals.one:∀ {x:V} {us:List Value},Vals [x] us→∃u,us=[u]∧RelV x u
 | _,_,.cons r .nil=>⟨_,rfl,r⟩
theorem Vals.two:∀ {x y:V} {us:List Value},Vals [x,y] us→∃u v,us=[u,v]∧RelV x u∧RelV y v
 | _,_,_,.cons r (.cons q .nil)=>⟨_,_,rfl,r,q⟩
theorem Vals.zero:∀ {us:List Value},Vals [] us→us=[]
 | _,.nil=>rfl
theorem Vals.dropLast {xs:List V}{us:List Value}(h:Vals xs us):Vals xs.dropLast us.dropLast:=by
 induction h with
 | nil=>exact .nil
 | cons r t ih=>
  cases t with
  | nil=>exact .nil
  | cons q t'=>exact .cons r ih
theorem Vals.eraseIdx:∀ {xs:List V} {us:List Value} (i:Nat),Vals xs us→Vals (xs.eraseIdx i) (us.eraseIdx i)
 | _,_,_,.nil=>.nil
 | _,_,0,.cons _ t=>t
 | _,_,i+1,.cons r t=>.cons r (Vals.eraseIdx i t)
theorem Zhi {α:Type}(l:List α):l.eraseIdx (l.length-1)=l.dropLast:=by
 induction l with
 | nil=>rfl
 | cons a r ih=>
  cases r with
  | nil=>rfl
  | cons b r=>
   have e:(a::b::r).length-1=((b::r).length-1)+1:=by
    have h1:(a::b::r).length=r.length+2:=rfl
    have h2:(b::r).length=r.length+1:=rfl
    omega
   rw[e,List.eraseIdx_cons_succ,ih]
   all_goals rfl
theorem Ze8 {α:Type}:∀(l:List α) (i:Nat),(l.eraseIdx i).length≤l.length
 | [],_=>YAQ _
 | _::_,0=>YCc _
 | _::r,i+1=>YDF (Ze8 r i)
section
variable {X:Cx}{pins:List (Addr×Obj)}{σ:St}{H:Hp}{s:Shared}{l b:Addr}{xs ys zs:List V}
theorem Inv.lset {its its':List Value}{n:Nat}{f:Array Value→Array Value}{t':Nat}(I:Inv X pins σ H s)(hH:H l=some (.lst xs))
  (e:s.heap.get? l=some { cls:=.type "list",data:=.seq its.toArray n }) (hf:f its.toArray=its'.toArray) (hv:Vals ys its') (hz:ys.length≤sizeLine):
  Inv X pins σ (upd H l (.lst ys)) { s with heap:=s.heap.update l (Obj.mapSeq f),toks:=t' }:=by
 have q:=PySem.IsL.update e f
 rw[hf]at q
 refine I.write (x:=l) (e:=l) (by rw[hH];exact trivial) (.inl rfl) (fun b' u hb hu=>(YBC s.heap (Obj.mapSeq f) (YAx hb)).trans hu) ⟨_,q⟩ ?_
 exact⟨hz,its',_,hv,q⟩
theorem Inv.lnew {its:List Value}{t':Nat}(I:Inv X pins σ H s)(hv:Vals ys its)(hz:ys.length≤sizeLine):
  Inv X pins σ (upd H s.heap.objs.size (.lst ys)) { s with heap:=s.heap.push { cls:=.type "list",data:=.seq its.toArray },toks:=t' }:=
 I.laid (fun _ _ q=>YAB _ q) (YAQ _) ⟨hz,its,0,hv,YAG _ rfl⟩
theorem Inv.fresh (I:Inv X pins σ H s):H s.heap.objs.size=none:=I.hok.fresh (YAQ _)
theorem Inv.lstM (I:Inv X pins σ H s)(hH:H l=some (.lst xs)):xs.length≤sizeLine∧∃(its:List Value) (n:Nat),Vals xs its∧xs.length=its.length∧s.heap.get? l=some { cls:=.type "list",data:=.seq its.toArray n }:=by
 obtain⟨z,its,n,r,e⟩:=I.hok l _ hH
 exact⟨z,its,n,r,r.length,e⟩
theorem Zjh {n:Nat}(h:n≤sizeLine):Builtin.List.listTooLong n=false:=by
 unfold Builtin.List.listTooLong
 exact decide_eq_false (by omega)
end
section
variable {X:Cx}
def rAppend:V→List V→Hp→VK→Prop:=fun x vs H Q=>∃l xs y,x=.ref l∧vs=[y]∧H l=some (.lst xs)∧xs.length<sizeLine∧Q .non (upd H l (.lst (xs++[y])))
theorem ZbD:MtM X "list.append" rAppend:=by
 intro pins s σ H x vs v us Q I rx rv h
 obtain⟨l,xs,y,rfl,rfl,hH,hz,q⟩:=h
 cases rx
 obtain⟨u,rfl,ru⟩:=rv.one
 obtain⟨z,its,n,r,hl,e⟩:=I.lstM hH
 refine call_meets F.slot_list_append ⟨_,e,rfl⟩ F.entry_list_append (F.args_list_append_2 _ _) (PySem.list_append l its.toArray n u (by rw[YAI];omega)) ⟨e,?_⟩
 refine⟨.non,_,I.lset (its':=its++[u]) hH e (by simp) (r.append (.cons ru .nil)) ?_,rfl,q⟩
 rw[YAF,YAp]
 omega
def rExtend:V→List V→Hp→VK→Prop:=fun x vs H Q=>∃l b xs zs,x=.ref l∧vs=[.ref b]∧H l=some (.lst xs)∧H b=some (.lst zs)∧xs.length+zs.length≤sizeLine∧Q .non (upd H l (.lst (xs++zs)))
theorem ZmU:MtM X "list.extend" rExtend:=by
 intro pins s σ H x vs v us Q I rx rv h
 obtain⟨l,b,xs,zs,rfl,rfl,hH,hB,hz,q⟩:=h
 cases rx
 obtain⟨u,rfl,ru⟩:=rv.one
 cases ru
 obtain⟨z,its,n,r,hl,e⟩:=I.lstM hH
 obtain⟨z2,its2,n2,r2,hl2,e2⟩:=I.lstM hB
 have hsz:its.toArray.size+its2.toArray.size≤sizeLine:=by rw[YAI,YAI];omega
 have hlong:¬(!its.toArray.isEmpty&&Builtin.List.listTooLong (its.toArray.size+its2.toArray.size))=true:=by
  rw[Zjh hsz,YCU]
  exact YAC
 refine call_meets F.slot_list_extend ⟨_,e,rfl⟩ F.entry_list_extend (F.args_list_extend_2 _ _)
  (AutoSeq1.list_extend_list_list_0 l its.toArray n b its2.toArray n2 hlong (by rw[YAI];omega) (by omega)) ⟨e,e2,?_⟩
 refine⟨.non,_,I.lset (its':=its++its2) hH e (by simp) (r.append r2) ?_,rfl,q⟩
 rw[YAF]
 omega
def rPop:V→List V→Hp→VK→Prop:=fun x vs H Q=>∃l xs y,x=.ref l∧vs=[]∧H l=some (.lst xs)∧xs[xs.length-1]?=some y∧Q y (upd H l (.lst xs.dropLast))
theorem ZmT:MtM X "list.pop" rPop:=by
 intro pins s σ H x vs v us Q I rx rv h
 obtain⟨l,xs,y,rfl,rfl,hH,hy,q⟩:=h
 cases rx
 have hus:=rv.zero
 subst hus
 obtain⟨z,its,n,r,hl,e⟩:=I.lstM hH
 obtain⟨u,hu,ru⟩:=r.get hy
 have hy':its.toArray[its.toArray.size-1]?=some u:=by
  show its.toArray[its.length-1]?=some u
  rw[←YAl,←hl]
  exact hu
 refine call_meets F.slot_list_pop ⟨_,e,rfl⟩ F.entry_list_pop (F.args_list_pop_1 _) (MeetsSeq.list_pop_last l its.toArray n u hy' (by rw[YAI];omega)) ⟨e,?_⟩
 refine⟨y,_,I.lset (its':=its.dropLast) hH e ?_ r.dropLast ?_,ru,q⟩
 ·show its.toArray.eraseIdxIfInBounds (its.toArray.size-1)=its.dropLast.toArray
  rw[YAI,List.eraseIdxIfInBounds_toArray,Zhi]
 ·rw[YBI]
  omega
def rPopAt:V→List V→Hp→VK→Prop:=fun x vs H Q=>∃l xs i k y,x=.ref l∧vs=[.int i]∧H l=some (.lst xs)∧-(2 ^ 63)≤i∧i<2 ^ 63∧seqIndex? i xs.length=some k∧xs[k]?=some y∧Q y (upd H l (.lst (xs.eraseIdx k)))
theorem Zjk:MtM X "list.pop" rPopAt:=by
 intro pins s σ H x vs v us Q I rx rv h
 obtain⟨l,xs,i,k,y,rfl,rfl,hH,h1,h2,hk,hy,q⟩:=h
 cases rx
 obtain⟨u,rfl,ru⟩:=rv.one
 obtain⟨t,rfl⟩:=ru
 obtain⟨z,its,n,r,hl,e⟩:=I.lstM hH
 obtain⟨w,hw,rw'⟩:=r.get hy
 refine call_meets F.slot_list_pop ⟨_,e,rfl⟩ F.entry_list_pop (F.args_list_pop_2 _ _)
  (MeetsSeq.list_pop_at l its.toArray n i t k w (fitsIndex_both h1 h2) (by rw[YAI,←hl];exact hk) (by rw[←YAl];exact hw) (by rw[YAI];omega)) ⟨e,?_⟩
 refine⟨y,_,I.lset (its':=its.eraseIdx k) hH e ?_ (r.eraseIdx k) ?_,rw',q⟩
 ·show its.toArray.eraseIdxIfInBounds k=(its.eraseIdx k).toArray
  rw[List.eraseIdxIfInBounds_toArray]
 ·have:=Ze8 xs k
  omega
def rCat:R2:=fun x y H Q=>∃l b xs zs,x=.ref l∧y=.ref b∧H l=some (.lst xs)∧H b=some (.lst zs)∧xs.length+zs.length≤sizeLine∧∀p,H p=none→Q (.ref p) (upd H p (.lst (xs++zs)))
theorem ZeY:OpR X (binaryOp .Add) rCat:=by
 intro pins s σ H x y v u Q I rx ry h
 obtain⟨l,b,xs,zs,rfl,rfl,hH,hB,hz,q⟩:=h
 cases rx
 cases ry
 obtain⟨z,its,n,r,hl,e⟩:=I.lstM hH
 obtain⟨z2,its2,n2,r2,hl2,e2⟩:=I.lstM hB
 refine PySem.P.add_list e e2 ?_ (by rw[YAI,YAI];omega)
 have ea:its.toArray++its2.toArray=(its++its2).toArray:=by simp
 rw[ea]
 exact⟨.ref _,_,I.lnew (t':=s.toks) (r.append r2) (by rw[YAF];omega),rfl,q _ I.fresh⟩
end
section
variable {prog:Program}{w:World}{A:Around}{E:Value→Shared→Prop}{s:Shared}
end
section
variable {X:Cx}
end
end L2
namespace Att
open PySem PySem.W PySem.Calls PyProof.Rows
theorem Zdx {P:Params}{h:Heap}:∀(ns:List Int) (vs:List Value),WellAll P h vs (ns.map WData.int)→IntsAre vs ns:=by
 intro ns
 induction ns with
 | nil=>
  intro vs w
  rw[YDV]at w
  cases w
  exact .nil
 | cons n ns ih=>
  intro vs w
  rw[YAf]at w
  cases w with
  | cons a b=>
   cases a
   exact .cons _ _ (ih _ b)
theorem ZhE {l:OpenLaw}{n:Nat}(hn:l.most=some n){P:Params}{h:Heap}{args:List WData}{vals:List Value}
  (hpre:l.row.toRowW.claim.pre args=true) (hwl:WellAll P h vals args):
  ∃a vs ns,vals=[Value.ref a]∧args=[WData.list (ns.map WData.int)]∧h.get? a=some { cls:=.type "list",data:=.seq vs.toArray }∧IntsAre vs ns∧ns.length≤n:=by
 have hsh:WShape.hasAll [] args [.list .int]=true:=(pre_splitW hpre).1
 have hc:l.pre.holds [] { args:=args }=true:=(pre_splitW hpre).2
 obtain⟨d,r,rfl,h1,h2⟩:=hasAllW_cons hsh
 obtain rfl:=hasAllW_nil h2
 obtain⟨xs,rfl,h3⟩:=hasW_list h1
 obtain⟨ns,rfl⟩:=items_int h3
 have hlen:ns.length≤n:=by
  unfold OpenLaw.pre at hc
  have h4:(WTm.not (.lt (.lit (.int (n:Int))) (.len (.arg 0)))).holds [] { args:=[.list (ns.map .int)] }=true:=by
   have h4:=(holds_andW hc).1
   rw[hn]at h4
   exact h4
  have h5:=condW_of h4 (w_not (w_lt w_lit (w_len_list (w_arg rfl))))
  rw[YAE]at h5
  refine Nat.le_of_not_lt fun q=>?_
  have q':(n:Int)<((ns.length:Nat):Int):=by omega
  first
   | (rw[decide_eq_true q']at h5;exact absurd h5 (by decide))
   | (simp at h5;omega)
 cases hwl with
 | cons w1 w2=>
  cases w2
  cases w1 with
  | list ho hall=>exact⟨_,_,ns,rfl,rfl,ho,Zdx ns _ hall,hlen⟩
theorem ZhQ (l:OpenLaw)(args:List WData):l.row.toRowW.claim.post args (.bool true) args=true:=
 postW_of (r:=l.row.toRowW) (X:=(true == true))
  (show WShape.has [] (.bool true) .bool=true by first | rfl | decide | simp[WShape.has,WShape.arms,WShape.armsAll])
  (show (WTm.eq .res (.lit (.bool true))).value [] { args:=args,res:=some (.bool true),after:=args }=some (.bool (true == true)) from w_eq_bool (w_res rfl) w_lit) rfl
theorem attach_call {l:OpenLaw}{n:Nat}{q:Program}{loose:List Str}{XP:(Str→Option Value)→Heap→Prop}{YP:World→Heap→Prop}{d:DefRec}
  (hn:l.most=some n) (hdf:d.params.defaults=[])
  (call:∀(w:World) (s₀ s₁:Shared) (mg mb:Str→Option Value) (fa:Addr) (o:Obj) (pm cd doc:Value) (a:Addr) (vs:List Value) (ns:List Int),
   Ground q loose [] XP w s₀ mg mb s₁.heap→YP w s₁.heap →
   s₁.heap.get? fa=some o→o.data=.func (docDef d.name d.params d.body d.scope pm cd doc)→s₁.heap.CodeRec cd d.name→mg d.name=some (.ref fa) →
   s₁.heap.get? a=some { cls:=.type "list",data:=.seq vs.toArray }→IntsAre vs ns→ns.length≤n→s₁.gens=#[] →
   codeAny (model l.prog w) callerA (.call (.ref fa) ⟨[.ref a],[]⟩) (fun r s'=>r=.ok (.ret (.bool true))∧OldK s₁.heap s'.heap∧s'.os=s₁.os∧AllBare s'.gens) s₁):
  WalkO q loose XP YP l.row.toRowW d [] (fun f vs=>PySem.call f vs):=by
 intro w s₀ s₁ mg mb G Y fa o pm cd doc dV kV ho hd hcd hD hmg hg args vals as hpre hlay hrd hwl hlo
 obtain rfl:dV=.none:=Dflts.none hD hdf
 obtain rfl:kV=.none:=Dflts.noKw hD
 obtain⟨a,vs,ns,rfl,rfl,hobj,hints,hlen⟩:=ZhE hn hpre hwl
 refine enter_call (codeAny_mono (call w s₀ s₁ mg mb fa o pm cd doc a vs ns G Y ho (fd_plain hd) hcd hmg hobj hints hlen hg) fun r s' hq=>?_)
 obtain⟨rfl,h2,h3,h4⟩:=hq
 exact⟨.inl ⟨.bool true,.bool true,[],rfl,fun _=>rfl,.bool true,ZhQ l _,fun _=>⟨List.Pairwise.nil,fun _ hm=>(nomatch hm)⟩⟩,h2,h3,h4⟩
section
variable {prog:Program}{w:World}{A:Around}{E:Value→Shared→Prop}{s:Shared}{K:Frag}
noncomputable def ledger (h:Heap)(L d:Addr):List (Addr×Obj):=(List.range h.objs.size).filterMap fun a=>if a=L∨a=d then none else (h.get? a).map fun o=>(a,o)
end
end Att
namespace L2
open PySem PySem.Spec PyProof.Rows
theorem Zde:∀ {vs:List Value} {ns:List Int},IntsAre vs ns→Vals (ns.map V.int) vs
 | _,_,.nil=>.nil
 | _,_,.cons n t h=>.cons ⟨t,rfl⟩ (Zde h)
def Only (H:Hp):Prop:=∀b,H b=none∨∃o xs,H b=some (.frz o (.lst xs))
theorem Zjp {P:Program}{w:World}{K:PySem.W.Frag}{mg mb:Str→Option Value}{CX:CXT}{k:Nat}{fa a:Addr}{fd:FuncData}{x:Str}{sp:Sp}{s₁:Shared}{vs:List Value}{ns:List Int}
  (KX:K.In s₁.heap) (hns:s₁.heap.Ns mainGlobals mg) (hb:s₁.heap.Ns builtinsNs mb) (hbb:∀x:Str,x≠"__name__"→mb x=bootBuiltins x) (hlim:s₁.heap.NoLimit) (hg:s₁.gens=#[])
  (ha:s₁.heap.get? a=some { cls:=.type "list",data:=.seq vs.toArray }) (hi:IntsAre vs ns) (hl:ns.length≤sizeLine) (hr:Room k callerA)
  (F:∀base:Heap,K.In base→base.Ns mainGlobals mg→FnOk P w K mg base CX k fa fd [x] sp) (hbind:∀(s:Shared) (u:Value),BindsTo s fd ⟨[u],[]⟩ [(x,u)])
  (hsp:∀H:Hp,Only H→SqL K H a (ns.map V.int)→sp [.ref a] H (fun v _=>v=.bl true) fun _ _ _=>False)
  (hCX:∀H e s',CX [] H s₁ (fun _ _ _=>False) e s'→False):
  codeAny (model P w) callerA (.call (.ref fa) ⟨[.ref a],[]⟩) (fun r s'=>r=.ok (.ret (.bool true))∧OldK s₁.heap s'.heap∧s'.os=s₁.os∧AllBare s'.gens) s₁:=by
 have rv:=Zde hi
 have lenV:=hi.length
 have core:∀H:Hp,Only H→SqL K H a (ns.map V.int)→HOk P w H s₁.heap→(∀b,H b≠none→b=a)→(H a≠none→K.lookup a=none) →
   codeAny (model P w) callerA (.call (.ref fa) ⟨[.ref a],[]⟩) (fun r s'=>r=.ok (.ret (.bool true))∧OldK s₁.heap s'.heap∧s'.os=s₁.os∧AllBare s'.gens) s₁:=by
  intro H hO hS hok hA hK
  have base_of:∀ {b:Addr} {o:Obj},s₁.heap.get? b=some o→H b=none→(hidT s₁.heap H).get? b=some o:=fun e n=>ZgB e n
  have noA:∀ {b:Addr} {o:Obj} {es:Array DictEntry} {ep:Nat},s₁.heap.get? b=some o→o.data=.dict es ep→H b=none:=fun {b o es ep} e d=>by
   cases q:H b with
   | none=>rfl
   | some u=>
    have e':b=a:=hA b (by rw[q];simp)
    subst e'
    rw[ha]at e;cases e
    have d':Data.seq vs.toArray _=Data.dict es ep:=d
    cases d'
  have nsK:∀ {b:Addr} {m:Str→Option Value},s₁.heap.Ns b m→(hidT s₁.heap H).Ns b m:=fun {b m} ⟨o,es,ep,e,d,r⟩=>⟨o,es,ep,base_of e (noA e d),d,r⟩
  have hKb:K.In (hidT s₁.heap H):=fun b o e=>base_of (KX b o e) (by
   cases q:H b with
   | none=>rfl
   | some u=>
    have e':b=a:=hA b (by rw[q];simp)
    subst e'
    rw[hK (by rw[q];simp)]at e;cases e)
  have hM:Mod K mg (hidT s₁.heap H):=⟨hKb,nsK hns,⟨mb,nsK hb,hbb⟩,let ⟨mc,h1,h2⟩:=hlim;⟨mc,nsK h1,h2⟩⟩
  have e0:Env0 P w K mg (hidT s₁.heap H) callerA [] s₁ H:=⟨rfl,hM,fun b o e=>Zh2 e,YCO (Zfh _ _),trivial,fun b hb=>absurd (show b∈([]:List Addr) from hb) (by simp),hok,.of_eq hg⟩
  refine codeAny_mono ((F _ hKb (nsK hns)).run callerA [] s₁ H ⟨[.ref a],[]⟩ [.ref a] [.ref a] _ _ hr e0 (hbind s₁ (.ref a)) (.cons rfl .nil) (hsp H hO hS)) fun r s' h=>?_
  cases r with
  | error e=>exact(hCX H e s' h).elim
  | ok fl=>
   cases fl with
   | next=>exact False.elim h
   | brk=>exact False.elim h
   | cont=>exact False.elim h
   | ret u=>
    obtain⟨v,H',os,bare,un,hok',r',q⟩:=h
    have q':v=.bl true:=q
    subst q'
    obtain rfl:u=Value.bool true:=r'
    refine⟨rfl,OldK.of_keep fun b o e=>?_,os,bare⟩
    cases q:H b with
    | none=>exact un.keep b o e q (by intro z;exact absurd (show b∈([]:List Addr) from z) (by simp)) (by simp)
    | some u=>
     rcases hO b with z | ⟨ob,xs,z⟩
     ·rw[q]at z;cases z
     ·have z2:=un.frzs b ob _ z
      obtain⟨e1,_⟩:=hok b _ z
      obtain⟨e2,_⟩:=hok' b _ z2
      rw[e]at e1;cases e1
      exact e2
 cases hk:K.lookup a with
 | some o=>
  have e:=KX a o hk
  rw[ha]at e
  cases e
  refine core (fun _=>none) (fun _=>.inl rfl) (.inr ⟨_,vs.toArray,_,hk,rfl,rfl,rfl,by rw[YAI,lenV];exact hl,by simpa using rv⟩) (fun b u z=>by have z':(none:Option HO)=some u:=z;cases z') (fun b z=>absurd rfl z) fun z=>absurd rfl z
 | none=>
  refine core (fun b=>if b=a then some (.frz { cls:=.type "list",data:=.seq vs.toArray } (.lst (ns.map V.int))) else none) (fun b=>?_) (.inl (.inr ⟨{ cls:=.type "list",data:=.seq vs.toArray },YAO rfl⟩)) (fun b u z=>?_) (fun b z=>?_) fun _=>hk
  ·by_cases hb:b=a
   ·exact .inr ⟨_,_,YAO hb⟩
   ·exact .inl (YAJ hb)
  ·by_cases hb:b=a
   ·have z':=(YAO hb).symm.trans z
    cases z'
    subst hb
    exact⟨ha,by rw[YAE];exact hl,vs,_,rv,ha⟩
   ·have z':=(YAJ hb).symm.trans z
    cases z'
  ·by_cases hb:b=a
   ·exact hb
   ·exact absurd (YAJ hb) z
end L2
namespace L2
open PySem PySem.Spec PyProof.Rows
noncomputable abbrev KOf {K:PySem.W.Frag}{h:Heap}(_:K.In h):PySem.W.Frag:=K
theorem ZnI {l:PySem.W.OpenLaw}{n k:Nat}{q:Program}{loose:List Str}{XP:(Str→Option Value)→Heap→Prop}{YP:World→Heap→Prop}{d:DefRec}{K:Params→PySem.W.Frag}{CX:World→CXT}{sp:World→Sp}{x:Str}
  (hn:l.most=some n) (hn2:n≤sizeLine) (hdf:d.params.defaults=[]) (hr:Room k callerA)
  (hY:∀(w:World) (h:Heap),YP w h→(K w.params).In h)
  (F:∀(w:World) (mg:Str→Option Value) (fa:Addr) (h:Heap),(K w.params).In h→h.Ns mainGlobals mg→mg d.name=some (.ref fa) →
   ∃fd:FuncData,(∀(s:Shared) (u:Value),BindsTo s fd ⟨[u],[]⟩ [(x,u)]) ∧
    ∀base:Heap,(K w.params).In base→base.Ns mainGlobals mg→FnOk l.prog w (K w.params) mg base (CX w) k fa fd [x] (sp w))
  (hsp:∀(w:World) (H:Hp) (a:Addr) (ns:List Int),ns.length≤n→Only H→SqL (K w.params) H a (ns.map V.int)→sp w [.ref a] H (fun v _=>v=.bl true) fun _ _ _=>False)
  (hCX:∀(w:World) (H:Hp) (s:Shared) (e:Value) (s':Shared),CX w [] H s (fun _ _ _=>False) e s'→False):
  PySem.W.WalkO q loose XP YP l.row.toRowW d [] (fun f vs=>PySem.call f vs):=by
 refine Att.attach_call hn hdf fun w s₀ s₁ mg mb fa o pm cd doc a vs ns G Y ho hd hcd hmg hobj hints hlen hg=>?_
 have KX:=hY w _ Y
 obtain⟨fd,hb,hF⟩:=F w mg fa _ KX G.T.g hmg
 exact Zjp KX G.T.g G.T.b G.T.builtins G.T.nolimit hg hobj hints (YAP hlen hn2) hr hF hb (fun H hO hS=>hsp w H a ns hlen hO hS) fun H e s'=>hCX w H s₁ e s'
noncomputable def inClass (s:Stmt)(j:Nat):Stmt:=match s with
 | .ClassDef _ _ _ body _ _ _ _ _ _ _=>body.getD j (.Pass ⟨0,0,0,0⟩)
 | _=>.Pass ⟨0,0,0,0⟩
noncomputable def ZbX (s:Stmt):Arguments:=match s with
 | .FunctionDef _ a _ _ _ _ _ _ _ _=>a
 | _=>{ posonlyargs:=[],args:=[],vararg:=none,kwonlyargs:=[],kw_defaults:=[],kwarg:=none,defaults:=[] }
noncomputable def Zbi (s:Stmt):List Stmt:=match s with
 | .FunctionDef _ _ b _ _ _ _ _ _ _=>b
 | _=>[]
noncomputable def Zah (s:Stmt):Scope:=match s with
 | .FunctionDef _ _ _ _ _ _ sc _ _ _=>sc
 | _=>{ kind:=.function,names:=[],isGenerator:=false,isCoroutine:=false }
abbrev CX0:CXT:=fun _ _ _ _ _ _=>False
abbrev E0:XK:=fun _ _ _=>False
theorem Zay {X:Cx}:ZbO CX0 X E0:=fun _ _ _ _ _ _ _ h=>h.elim
structure Fun (K:PySem.W.Frag)(x qual:Str)(st:Stmt)(f:Addr)(fd:FuncData):Prop where
 ex:∃(oc:Value) (od:Option Addr) (kV doc pm:Value) (an:Option Addr) (cdv ct:Value) (osl:Array (Option Value)),
  fd=PySem.W.fnOf x qual (ZbX st) (Zbi st) (Zah st) .none kV doc pm an cdv ct∧K.lookup f=some ⟨oc,od,.func fd,osl⟩∧PySem.W.codeIn K cdv qual=true
 kp:PySem.W.keepIn K (.ref f)=true
section
variable {P:Program}{w:World}{K:PySem.W.Frag}{mg:Str→Option Value}{base:Heap}
theorem Fun.ok {x qual:Str}{st:Stmt}{f:Addr}{fd:FuncData}{N ps:List Str}{k:Nat}{sp:Sp}(F:Fun K x qual st f fd)(S:FnScope N ps (Zah st))(len:∀vs H Q E,sp vs H Q E→vs.length=ps.length)
  (hbody:∀(cdv:Value) (A:Around) (outer:List Env) (s:Shared) (H:Hp) (vs:List V) (Q:VK) (E:XK),Room k (A.deeper (envOfC qual (Zah st) s.heap.objs.size f cdv))→sp vs H Q E →
   ∃t,PSs (cxOf CX0 P w K mg base N qual (Zah st) f cdv A outer s H E).nox (Zbi st) t∧t { nx:=fun _ H'=>Q .non H',rt:=Q } (start N vs) H):FnOk P w K mg base CX0 (k+1) f fd ps sp:=by
 obtain⟨oc,od,kV,doc,pm,an,cdv,ct,osl,rfl,lk,hcd⟩:=F.ex
 refine Zls lk hcd S len fun A outer s H vs Q E hr hsp=>?_
 obtain⟨t,h,q⟩:=hbody cdv A outer s H vs Q E hr hsp
 exact⟨t,h.nox,q⟩
theorem Fun.binds {x qual:Str}{st:Stmt}{f:Addr}{fd:FuncData}{ps:List Str}(F:Fun K x qual st f fd)
  (h:∀(kV doc pm:Value) (an:Option Addr) (cdv ct:Value) (us:List Value),us.length=ps.length→bindArgs (PySem.W.fnOf x qual (ZbX st) (Zbi st) (Zah st) .none kV doc pm an cdv ct) ⟨us,[]⟩=pure (ps.zip us)):Binds K fd ps []:=by
 obtain⟨oc,od,kV,doc,pm,an,cdv,ct,osl,rfl,lk,hcd⟩:=F.ex
 exact .all (h kV doc pm an cdv ct)
theorem Zkd {x qual:Str}{st:Stmt}{f:Addr}{oc:Value}{od an:Option Addr}{osl:Array (Option Value)}{kV doc pm cdv ct:Value}(l:K.lookup f=some ⟨oc,od,.func (PySem.W.fnOf x qual (ZbX st) (Zbi st) (Zah st) .none kV doc pm an cdv ct),osl⟩)
  (c:PySem.W.codeIn K cdv qual=true) (k:PySem.W.keepIn K (.ref f)=true):Fun K x qual st f (PySem.W.fnOf x qual (ZbX st) (Zbi st) (Zah st) .none kV doc pm an cdv ct):=⟨⟨oc,od,kV,doc,pm,an,cdv,ct,osl,rfl,l,c⟩,k⟩
end
theorem ZaM {A:Around}{k:Nat}(hr:Room k A):A.units+1<cLine:=YCW (Nat.add_le_add_left (by decide:1≤64) _) hr.units
theorem Zdg {n:Nat}(h:n≤1000):n<sizeLine:=YCW h (by decide)
section
variable {X:Cx}
theorem pv (i:Nat) {x:Str} {pos:Pos} (hN:X.N[i]?=some x:=by rfl) (hv:Vis X.env.scope x:=by first | exact Or.inl rfl | exact Or.inr (Or.inl rfl) | exact Or.inr (Or.inr rfl)) (hd:(x == ("__debug__":Str))=false:=by decide)
  (hcd:(x == ("__classdict__":Str))=false:=by decide):PE X (.Name x pos) (tVar i):=Zmo hN hv hd hcd
end
theorem iteF {A B:Prop}(h:B):if false=true then A else B:=by
 rw[YAJ YAC]
 exact h
theorem iteT {A B:Prop}(h:A):if true=true then A else B:=by
 rw[YAO rfl]
 exact h
theorem ite2 {c A B:Prop}[Decidable c](h1:c→A)(h2:¬c→B):if c then A else B:=by
 by_cases h:c
 ·rw[YAO h]
  exact h1 h
 ·rw[YAJ h]
  exact h2 h
def Same (H H':Hp):Prop:=∀b o,H b=some o→H' b=some o
theorem Same.refl (H:Hp):Same H H:=fun _ _ h=>h
theorem Same.trans {H H1 H2:Hp}(a:Same H H1)(b:Same H1 H2):Same H H2:=fun c o h=>b c o (a c o h)
theorem Same.free {H H':Hp}(e:Same H H'){l:Addr}(h:H' l=Option.none):H l=Option.none:=by
 cases q:H l with
 | none=>rfl
 | some o=>
  rw[e l o q]at h
  cases h
theorem Same.seq {K:PySem.W.Frag}{H H':Hp}{a:Addr}{xs:List V}(e:Same H H')(h:SqL K H a xs):SqL K H' a xs:=by
 rcases h with (h | ⟨o,h⟩) | h
 ·exact .inl (.inl (e _ _ h))
 ·exact .inl (.inr ⟨o,e _ _ h⟩)
 ·exact .inr h
section
variable {κ:Type}[DecidableEq κ]
noncomputable def valV (kvs:List (κ×V))(k:κ):Option V:=(kvs.find? fun kv=>decide (kv.1=k)).map (·.2)
noncomputable def putK (kvs:List (κ×V))(k:κ)(v:V):List (κ×V):=
 if (kvs.any fun kv=>decide (kv.1=k))=true then kvs.map (fun kv=>if kv.1=k then (kv.1,v) else kv) else kvs++[(k,v)]
noncomputable def Znz (kvs:List (κ×V))(k:κ):List (κ×V):=kvs.filter fun kv=>decide (kv.1≠k)
theorem Za8 {p:κ×V}{r:List (κ×V)}{k:κ}(e:p.1=k):valV (p::r) k=some p.2:=by simp[valV,YCy,e]
theorem Za9 {p:κ×V}{r:List (κ×V)}{k:κ}(e:¬p.1=k):valV (p::r) k=valV r k:=by simp[valV,YCy,e]
theorem Zch (k:κ):∀kvs:List (κ×V),(kvs.any fun kv=>decide (kv.1=k))=(valV kvs k).isSome
 | []=>rfl
 | p::r=>by
  rw[List.any_cons]
  by_cases e:p.1=k
  ·simp only[Za8 e,decide_eq_true e,Bool.true_or,Option.isSome_some]
  ·rw[Za9 e,decide_eq_false e,Bool.false_or];exact Zch k r
theorem Zga (k j:κ)(y:V):∀kvs:List (κ×V),valV (kvs.map fun kv=>if kv.1=k then (kv.1,y) else kv) j=(valV kvs j).map fun x=>if j=k then y else x
 | []=>rfl
 | p::r=>by
  have ih:=Zga k j y r
  rw[YAf]
  by_cases h:p.1=k
  ·rw[YAO h]
   by_cases e:p.1=j
   ·rw[Za8 (p:=(p.1,y)) e,Za8 e,YDO,YAO (e.symm.trans h)]
   ·rw[Za9 (p:=(p.1,y)) e,Za9 e,ih]
  ·rw[YAJ h]
   by_cases e:p.1=j
   ·rw[Za8 (p:=p) e,Za8 e,YDO,YAJ (fun z=>h (e.trans z))]
   ·rw[Za9 (p:=p) e,Za9 e,ih]
theorem ZeG (k j:κ)(y:V):∀kvs:List (κ×V),valV kvs k=none→valV (kvs++[(k,y)]) j=if j=k then some y else valV kvs j
 | [],_=>by
  by_cases e:k=j
  ·rw[YAO e.symm];exact Za8 (p:=(k,y)) e
  ·rw[YAJ (fun z=>e z.symm)];exact Za9 (p:=(k,y)) e
 | p::r,hn=>by
  rw[YCr]
  have hk:¬p.1=k:=fun z=>by rw[Za8 z]at hn;cases hn
  rw[Za9 hk]at hn
  have ih:=ZeG k j y r hn
  by_cases e:p.1=j
  ·rw[Za8 e,Za8 e,YAJ (fun z=>hk (e.trans z))]
  ·rw[Za9 e,Za9 e,ih]
theorem Zf9 (kvs:List (κ×V))(k j:κ)(y:V):valV (putK kvs k y) j=if j=k then some y else valV kvs j:=by
 unfold putK
 by_cases a:(kvs.any fun kv=>decide (kv.1=k))=true
 ·rw[YAO a,Zga]
  rw[Zch]at a
  by_cases e:j=k
  ·obtain⟨x,hx⟩:=Option.isSome_iff_exists.mp a
   rw[YAO e,e,hx,YDO,YAO rfl]
  ·rw[YAJ e]
   cases valV kvs j with
   | none=>rfl
   | some x=>rw[YDO,YAJ e]
 ·rw[YAJ a]
  refine ZeG k j y kvs ?_
  rw[Zch]at a
  cases q:valV kvs k with
  | none=>rfl
  | some x=>rw[q]at a;exact(a rfl).elim
theorem ZbL (kvs:List (κ×V))(k:κ)(v:V):(putK kvs k v).length≤kvs.length+1:=by
 unfold putK
 split
 ·rw[YAE];omega
 ·rw[YAF,YAn,List.length_nil];omega
theorem Zi8 {kvs:List (κ×V)}{k:κ}(v:V)(h:valV kvs k=none):putK kvs k v=kvs++[(k,v)]:=by
 unfold putK
 rw[Zch,h]
 exact YAJ (by decide)
theorem RelO.isSome_eq {o:Option V}{u:Option Value}(r:RelO o u):o.isSome=u.isSome:=by
 cases o with
 | none=>cases u with
  | none=>rfl
  | some _=>exact(show False from r).elim
 | some _=>cases u with
  | none=>exact(show False from r).elim
  | some _=>rfl
theorem KV.val {kvs:List (κ×V)}{vs:List (κ×Value)}(r:KV kvs vs)(k:κ):RelO (valV kvs k) (valueAt vs k):=by
 unfold KV at r
 induction r with
 | nil=>exact True.intro
 | @cons p q ps qs h t ih=>
  obtain⟨h1,h2⟩:=h
  by_cases e:p.1=k
  ·have e':q.1=k:=h1.symm.trans e
   have b:valueAt (q::qs) k=some q.2:=by simp[valueAt,YCy,e']
   rw[Za8 e,b];exact h2
  ·have e':¬q.1=k:=fun z=>e (h1.trans z)
   have b:valueAt (q::qs) k=valueAt qs k:=by simp[valueAt,YCy,e']
   rw[Za9 e,b];exact ih
theorem KV.any {kvs:List (κ×V)}{vs:List (κ×Value)}(r:KV kvs vs)(k:κ):(kvs.any fun kv=>decide (kv.1=k))=vs.any fun kv=>decide (kv.1=k):=by
 unfold KV at r
 induction r with
 | nil=>rfl
 | cons h t ih=>rw[List.any_cons,List.any_cons,ih,h.1]
theorem KV.repl {kvs:List (κ×V)}{vs:List (κ×Value)}(r:KV kvs vs)(k:κ){y:V}{u:Value}(ry:RelV y u):
  KV (kvs.map fun kv=>if kv.1=k then (kv.1,y) else kv) (vs.map fun kv=>if kv.1=k then (kv.1,u) else kv):=by
 unfold KV at r ⊢
 induction r with
 | nil=>exact .nil
 | @cons p q ps qs h t ih=>
  rw[YAf,YAf]
  refine .cons ?_ ih
  obtain⟨h1,h2⟩:=h
  by_cases e:p.1=k
  ·rw[YAO e,YAO (h1.symm.trans e)];exact⟨h1,ry⟩
  ·rw[YAJ e,YAJ (fun z=>e (h1.trans z))];exact⟨h1,h2⟩
theorem KV.put {kvs:List (κ×V)}{vs:List (κ×Value)}(r:KV kvs vs)(k:κ){y:V}{u:Value}(ry:RelV y u):KV (putK kvs k y) (stored vs k u):=by
 unfold putK stored
 rw[r.any k]
 by_cases e:(vs.any fun kv=>decide (kv.1=k))=true
 ·rw[YAO e,YAO e];exact r.repl k ry
 ·rw[YAJ e,YAJ e];exact Paired.snoc r ⟨rfl,ry⟩
theorem KV.drop {kvs:List (κ×V)}{vs:List (κ×Value)}(r:KV kvs vs)(k:κ):KV (Znz kvs k) (without vs k):=by
 unfold KV at r ⊢
 unfold Znz without
 induction r with
 | nil=>exact .nil
 | @cons p q ps qs h t ih=>
  obtain⟨h1,h2⟩:=h
  rw[List.filter_cons,List.filter_cons]
  by_cases e:p.1=k
  ·have a:¬decide (p.1≠k)=true:=by simp[e]
   have b:¬decide (q.1≠k)=true:=by simp[h1.symm.trans e]
   rw[YAJ a,YAJ b];exact ih
  ·have e':¬q.1=k:=fun z=>e (h1.trans z)
   have a:decide (p.1≠k)=true:=by simp[e]
   have b:decide (q.1≠k)=true:=by simp[e']
   rw[YAO a,YAO b];exact .cons ⟨h1,h2⟩ ih
theorem KV.keys {kvs:List (κ×V)}{vs:List (κ×Value)}(r:KV kvs vs):kvs.map (·.1)=vs.map (·.1):=by
 unfold KV at r
 induction r with
 | nil=>rfl
 | cons h t ih=>rw[YAf,YAf,ih,h.1]
theorem KV.length {kvs:List (κ×V)}{vs:List (κ×Value)}(r:KV kvs vs):kvs.length=vs.length:=Paired.length r
end
theorem Zjt {P:Program}{w:World}{k:Key}{u:Value}(r:RelV (kV k) u):(ZaI P w).is k u=true:=by
 cases k with
 | inl i=>obtain⟨t,e⟩:=(show ∃t,u=Value.int i t from r);subst e;exact ZfK P w i t
 | inr x=>obtain⟨t,e⟩:=(show ∃t,u=Value.str x t from r);subst e;exact Zdp P w x t
theorem Zff {P:Program}{w:World}:∀ {ks:List Key} {us:List Value},Vals (ks.map kV) us→ItemsAre (ZaI P w) ks us
 | [],_,r=>by rw[YDV]at r;cases r;exact .nil
 | k::ks,_,r=>by
  rw[YAf]at r
  cases r with
  | cons h t=>exact .cons (Zjt h) (Zff t)
abbrev KT (H:Hp):List (List Key×V)→List (List Key×Addr×Value)→Prop:=Paired fun p q=>p.1=q.1∧H q.2.1=some (.tup (p.1.map kV))∧RelV p.2 q.2.2
theorem KT.val {H:Hp}{kvs:List (List Key×V)}{xs:List (List Key×Addr×Value)}(r:KT H kvs xs)(k:List Key):RelO (valV kvs k) ((atKey xs k).map (·.2)):=by
 induction r with
 | nil=>exact True.intro
 | @cons p q ps qs h t ih=>
  obtain⟨h1,_,h2⟩:=h
  by_cases e:p.1=k
  ·have e':q.1=k:=h1.symm.trans e
   have b:atKey (q::qs) k=some q.2:=by simp[atKey,YCy,e']
   rw[Za8 e,b];exact h2
  ·have e':¬q.1=k:=fun z=>e (h1.trans z)
   have b:atKey (q::qs) k=atKey qs k:=by simp[atKey,YCy,e']
   rw[Za9 e,b];exact ih
theorem KT.repl {H:Hp}{kvs:List (List Key×V)}{xs:List (List Key×Addr×Value)}(r:KT H kvs xs)(k:List Key){y:V}{u:Value}(ry:RelV y u):
  KT H (kvs.map fun kv=>if kv.1=k then (kv.1,y) else kv) (xs.map (putAt k u)):=by
 induction r with
 | nil=>exact .nil
 | @cons p q ps qs h t ih=>
  rw[YAf,YAf]
  refine .cons ?_ ih
  obtain⟨h1,h2,h3⟩:=h
  unfold putAt
  by_cases e:p.1=k
  ·rw[YAO e,YAO (h1.symm.trans e)];exact⟨h1,h2,ry⟩
  ·rw[YAJ e,YAJ (fun z=>e (h1.trans z))];exact⟨h1,h2,h3⟩
theorem KT.put {H:Hp}{kvs:List (List Key×V)}{xs:List (List Key×Addr×Value)}(r:KT H kvs xs)(k:List Key){b:Addr}{y:V}{u:Value}(hb:H b=some (.tup (k.map kV)))(ry:RelV y u):
  KT H (putK kvs k y) (storedH xs k b u):=by
 have e:(kvs.any fun kv=>decide (kv.1=k))=(atKey xs k).isSome:=by
  rw[Zch,(r.val k).isSome_eq,Option.isSome_map]
 unfold putK storedH
 rw[e]
 by_cases q:(atKey xs k).isSome=true
 ·rw[YAO q,YAO q];exact r.repl k ry
 ·rw[YAJ q,YAJ q];exact Paired.snoc r ⟨rfl,hb,ry⟩
theorem KT.keeps {H H':Hp}{kvs:List (List Key×V)}{xs:List (List Key×Addr×Value)}(r:KT H kvs xs)(ht:∀b ys,H b=some (.tup ys)→H' b=some (.tup ys)):KT H' kvs xs:=
 Paired.mapP r fun _ _ z=>⟨z.1,ht _ _ z.2.1,z.2.2⟩
section
variable {P:Program}{w:World}{H:Hp}{h:Heap}{a:Addr}
theorem Zmg {u:HO}(ok:HOk P w H h)(e:Rd H a u):ObjOk P w H h a u:=e.ok ok
theorem Zlx {kvs:List (Key×V)}(ok:HOk P w H h)(e:Rd H a (.dK kvs)):kvs.length≤sizeLine∧(a == sysModules)=false∧∃vs,KV kvs vs∧h.DictOf (ZaI P w) a vs:=
 show ObjOk P w H h a (.dK kvs) from Zmg ok e
theorem ZjF {kvs:List (Key×V)}(ok:HOk P w H h)(e:H a=some (.dK kvs)):kvs.length≤sizeLine∧(a == sysModules)=false∧∃vs,KV kvs vs∧h.DictOf (ZaI P w) a vs:=Zlx ok (.inl e)
theorem Zij {ks:List Key}(ok:HOk P w H h)(e:H a=some (.tup (ks.map kV))):(tupleKind (ZaI P w)).is h ks a:=by
 obtain⟨_,its,r,o,h1,h2,n,h3⟩:=(show ObjOk P w H h a (.tup (ks.map kV)) from ok a _ e)
 exact⟨o,its.toArray,n,h1,h2,h3,by simpa using Zff r⟩
theorem Zlw {kvs:List (List Key×V)}(ok:HOk P w H h)(e:Rd H a (.dT kvs)):kvs.length≤sizeLine∧(a == sysModules)=false ∧
  ∃xs,KT H kvs xs∧h.DictOfH (tupleKind (ZaI P w)) a xs:=by
 obtain⟨z,y,xs,r,o,es,ep,h1,h2,h3,h4,h5⟩:=(show ObjOk P w H h a (.dT kvs) from Zmg ok e)
 refine⟨z,y,xs,r,o,es,ep,h1,h2,h3,h4,fun x hx=>?_,h5⟩
 have all:∀ {l:List (List Key×V)} {m:List (List Key×Addr×Value)},KT H l m→∀x∈m,(tupleKind (ZaI P w)).is h x.1 x.2.1:=by
  intro l m q
  induction q with
  | nil=>intro x hx;exact nomatch hx
  | @cons p q ps qs hq t ih=>
   intro x hx
   rcases YAK.mp hx with e | hx
   ·subst e
    exact Zij ok (by rw[←hq.1];exact hq.2.1)
   ·exact ih x hx
 exact all r x hx
theorem Zps {kvs:List (List Key×V)}(ok:HOk P w H h)(e:H a=some (.dT kvs)):kvs.length≤sizeLine∧(a == sysModules)=false ∧
  ∃xs,KT H kvs xs∧h.DictOfH (tupleKind (ZaI P w)) a xs:=Zlw ok (.inl e)
end
def DGet (H:Hp)(a:Addr)(y:V)(r:Option V):Prop:=
 (∃kvs k,Rd H a (.dK kvs)∧y=kV k∧r=valV kvs k)∨∃kvs k b,Rd H a (.dT kvs)∧y=.ref b∧H b=some (.tup (k.map kV))∧r=valV kvs k
def DPut (H:Hp)(a:Addr)(y v:V)(H':Hp):Prop:=
 (∃kvs k,H a=some (.dK kvs)∧y=kV k∧kvs.length<sizeLine∧H'=upd H a (.dK (putK kvs k v))) ∨
 ∃kvs k b,H a=some (.dT kvs)∧y=.ref b∧H b=some (.tup (k.map kV))∧kvs.length<sizeLine∧H'=upd H a (.dT (putK kvs k v))
theorem DGet.k {H:Hp}{a:Addr}{kvs:List (Key×V)}{k:Key}(e:H a=some (.dK kvs)):DGet H a (kV k) (valV kvs k):=.inl ⟨kvs,k,.inl e,rfl,rfl⟩
theorem DGet.t {H:Hp}{a b:Addr}{kvs:List (List Key×V)}{k:List Key}(e:H a=some (.dT kvs))(eb:H b=some (.tup (k.map kV))):DGet H a (.ref b) (valV kvs k):=.inr ⟨kvs,k,b,.inl e,rfl,eb,rfl⟩
theorem DPut.k {H:Hp}{a:Addr}{kvs:List (Key×V)}{k:Key}{v:V}(e:H a=some (.dK kvs))(hl:kvs.length<sizeLine):DPut H a (kV k) v (upd H a (.dK (putK kvs k v))):=.inl ⟨kvs,k,e,rfl,hl,rfl⟩
theorem DPut.t {H:Hp}{a b:Addr}{kvs:List (List Key×V)}{k:List Key}{v:V}(e:H a=some (.dT kvs))(eb:H b=some (.tup (k.map kV)))(hl:kvs.length<sizeLine):
  DPut H a (.ref b) v (upd H a (.dT (putK kvs k v))):=.inr ⟨kvs,k,b,e,rfl,eb,hl,rfl⟩
section
variable {X:Cx}{pins:List (Addr×Obj)}{σ:St}{H:Hp}{s:Shared}{a:Addr}{y v:V}{u r:Value}{o:Option V}{A:Around}{E:Value→Shared→Prop}
theorem Inv.big (I:Inv X pins σ H s):sysModules<s.heap.objs.size:=by
 have h:mainGlobals<s.heap.objs.size:=(I.mod.glob.keeps I.bk).lt
 exact Nat.lt_trans (by decide) h
theorem ZiB {Q:Value→Shared→Prop}(hu:A.units+1<cLine)(I:Inv X pins σ H s)(g:DGet H a y (some v))(ry:RelV y u)(h:∀w' s',Inv X pins σ H s'→RelV v w'→Q w' s'):
  wpAny (model X.prog X.w) A (getItem (.ref a) u) Q E s:=by
 rcases g with⟨kvs,k,e,ey,l⟩|⟨kvs,k,b,e,ey,eb,l⟩
 ·subst ey
  obtain⟨z,hd,vs,rel,dd⟩:=Zlx I.hok e
  obtain⟨w',hw,rw'⟩:=RelO.some_of (v:=v) (o:=valueAt vs k) (by rw[l];exact rel.val k)
  exact wpAny_getItem_of (Zjt ry) dd.mapOf hw (h w' _ (I.tok _) rw')
 ·subst ey
  cases (show u=Value.ref b from ry)
  obtain⟨z,hd,xs,rel,dd⟩:=Zlw I.hok e
  obtain⟨w',hw,rw'⟩:=RelO.some_of (v:=v) (o:=(atKey xs k).map (·.2)) (by rw[l];exact rel.val k)
  obtain⟨p,hp,hp2⟩:=Option.map_eq_some_iff.mp hw
  refine wpAny_getItem_heap (tupleKind_room_in1 hu) (Zij I.hok eb) dd hp ?_
  rw[hp2]
  exact h w' _ (I.tok _) rw'
theorem ZfY {h':Heap}{t':Nat}{ob:HO}(I:Inv X pins σ H s)(mu:Mut (H a))(hs:Heap.SameBut a s.heap h')(he:∃q,h'.get? a=some q)(new:ObjOk X.prog X.w (upd H a ob) h' a ob):
  Inv X pins σ (upd H a ob) { s with heap:=h',toks:=t' }:=
 I.write (x:=a) (e:=a) mu (.inl rfl) (fun b q hb z=>(hs.2 b hb).trans z) he new
theorem Zki {P:Program}{w:World}{H':Hp}{h':Heap}{kvs:List (Key×V)}{vs:List (Key×Value)}(z:kvs.length≤sizeLine)(hd:(a == sysModules)=false)(rel:KV kvs vs)(dd:h'.DictOf (ZaI P w) a vs):
  ObjOk P w H' h' a (.dK kvs):=⟨z,hd,vs,rel,dd⟩
theorem ZiA {H':Hp}{Q:Unit→Shared→Prop}(hu:A.units+1<cLine)(I:Inv X pins σ H s)(g:DPut H a y v H')(ry:RelV y u)(rv:RelV v r)(h:∀s',Inv X pins σ H' s'→Q () s'):
  wpAny (model X.prog X.w) A (setItem (.ref a) u r) Q E s:=by
 rcases g with⟨kvs,k,e,ey,l,eH⟩|⟨kvs,k,b,e,ey,eb,l,eH⟩
 ·subst ey eH
  obtain⟨z,hd,vs,rel,dd⟩:=ZjF I.hok e
  have hz:vs.length≤sizeLine:=by rw[←rel.length];exact z
  have hl:(putK kvs k v).length≤sizeLine:=by have:=ZbL kvs k v;omega
  refine wpAny_setItem_pairs (hsz:=hz) (Zjt ry) dd fun h' dd' hs=>h _ ?_
  have he:∃q,h'.get? a=some q:=let ⟨q,_,_,hq,_⟩:=dd';⟨q,hq⟩
  exact ZfY I (by rw[e];exact True.intro) hs he (Zki hl hd (rel.put k rv) dd')
 ·subst ey eH
  cases (show u=Value.ref b from ry)
  obtain⟨z,hd,xs,rel,dd⟩:=Zps I.hok e
  have hz:xs.length≤sizeLine:=by rw[←Paired.length rel];exact z
  have hl:(putK kvs k v).length≤sizeLine:=by have:=ZbL kvs k v;omega
  refine wpAny_setItem_heap (hsz:=hz) (tupleKind_room_in1 hu) (Zij I.hok eb) dd fun h' dd' hs=>h _ ?_
  obtain⟨q,es,ep,hq,h2,h3,h4,_,h5⟩:=dd'
  refine ZfY I (by rw[e];exact True.intro) hs ⟨q,hq⟩ ⟨hl,hd,_,(rel.put k eb rv).keeps fun c ys ec=>?_,q,es,ep,hq,h2,h3,h4,h5⟩
  rw[Zae (Zpk ec e (fun z=>nomatch z))]
  exact ec
end
section
variable {X:Cx}{pins:List (Addr×Obj)}{σ:St}{H:Hp}{s:Shared}{a:Addr}{kvs:List (Key×V)}{k:Key}{u:Value}{A:Around}{E:Value→Shared→Prop}
end
def NoSl (i:Expr):Prop:=∀ov iv,subscripted i false ov iv=operate [ov,iv] (getItem ov iv)
theorem Zkz {prog:Program}{w:World}{A:Around}{E:Value→Shared→Prop}{s:Shared}{env:Env}{value slice:Expr}{pos:Pos}{T id:String}{Q:Value→Shared→Prop}
  (hl:typeLookup (.type T) "__getitem__"=pure (some (.builtin id))) (hs:NoSl slice)
  (h:wpAny (model prog w) A (eval value env) (fun o s₁=>wpAny (model prog w) A (eval slice env) (fun i s₂=>s₂.TypeIs o T∧wpAny (model prog w) A (getItem o i) Q E s₂) E s₁) E s):
  wpAny (model prog w) A (eval (.Subscript value slice pos) env) Q E s:=by
 refine Subscript_ (YBF h (fun o s₁ h₁=>YBF h₁ (fun i s₂ h₂=>?_) fun _ _ x=>x) fun _ _ x=>x)
 obtain⟨hT,h₂⟩:=h₂
 unfold subscriptTail
 refine YAA ?_
 rw[getitemInPython_of_ne hT.not_modules]
 refine YAA (wpAny_specialOf hT hl ?_)
 have fin:wpAny (model prog w) A (subscripted slice false o i) (fun r s₃=>wpAny (model prog w) A (letTemporaryGo value o r >>= fun _=>pure r) Q E s₃) E s₂:=by
  rw[hs o i]
  exact wpAny_operating (YBF h₂ (fun r s₃ h₃=>YAA (wpAny_letTemporaryGo (YAD h₃))) fun _ _ x=>x)
 first
  | exact YAD (YAA fin)
  | exact YAA (YAD (YAA fin))
  | exact YAA fin
theorem ZfU {X:Cx}{pins:List (Addr×Obj)}{σ:St}{H:Hp}{s:Shared}{a:Addr}{y:V}{o:Option V}(I:Inv X pins σ H s)(g:DGet H a y o):s.TypeIs (.ref a) "dict":=by
 rcases g with⟨kvs,k,e,_,_⟩|⟨kvs,k,b,e,_,_,_⟩
 ·obtain⟨_,_,vs,_,dd⟩:=Zlx I.hok e
  exact dd.typeIs
 ·obtain⟨_,_,xs,_,dd⟩:=Zlw I.hok e
  exact dd.typeIs
def ZlZ (td ty:TE):TE:=fun σ H Q=>td σ H fun x H1=>ty σ H1 fun y H2=>∃a v,x=.ref a∧DGet H2 a y (some v)∧Q v H2
def Zme (td ty tv:TE):TS:=fun D σ H=>tv σ H fun v H1=>td σ H1 fun x H2=>ty σ H2 fun y H3=>∃a H4,x=.ref a∧DPut H3 a y v H4∧D.nx σ H4
section
variable {X:Cx}{o i e value:Expr}{pos pos' tpos:Pos}{td ty tv:TE}
theorem ZkX (hu:X.A.units+1<cLine)(ho:PE X o td)(hi:PE X i ty)(hs:NoSl i):PE X (.Subscript o i pos) (ZlZ td ty):=by
 intro pins s σ H Q I h
 refine Zkz PySem.F.slot_dict_getitem.lookup hs (thn (ho pins s σ H _ I h) fun u s1 ⟨x,H1,I1,rx,q1⟩=>thn (hi pins s1 σ H1 _ I1 q1) fun iv s2 ⟨y,H2,I2,ry,a,v,ex,g,q2⟩=>?_)
 subst ex
 obtain rfl:u=Value.ref a:=rx
 exact⟨ZfU I2 g,ZiB hu I2 g ry fun w' s3 I3 rw'=>⟨v,H2,I3,rw',q2⟩⟩
theorem ZkS (hu:X.A.units+1<cLine)(ho:PE X o td)(hi:PE X i ty)(hv:PE X value tv)(hs:swapsWith value (some (.Subscript o i pos')) pos.line X.env=pure false):
  PS X (.Assign [.Subscript o i pos'] value pos) (Zme td ty tv):=by
 intro pins s σ H D I h
 refine wpAny_Assign_Subscript (thn (hv pins s σ H _ I h) fun r s1 ⟨v,H1,I1,rv,q1⟩=>thn (ho pins s1 σ H1 _ I1 q1) fun u s2 ⟨x,H2,I2,rx,q2⟩=>thn (hi pins s2 σ H2 _ I2 q2) fun iv s3 ⟨y,H3,I3,ry,a,H4,ex,g,q3⟩=>?_) hs
 subst ex
 obtain rfl:u=Value.ref a:=rx
 exact ZiA hu I3 g ry rv fun s4 I4=>⟨σ,H4,I4,q3⟩
end
theorem ZgG {P:Program}{w:World}{H:Hp}(h:Heap)(hb:sysModules<h.objs.size):ObjOk P w H (h.push { cls:=.type "dict",data:=.dict #[] }) h.objs.size (.dK []):=
 ⟨YAz _,beq_eq_false_iff_ne.mpr (YAx (YAX hb)),[],.nil,Heap.DictOf.new h⟩
def tDNewK:TE:=fun _ H Q=>∀p,H p=none→Q (.ref p) (upd H p (.dK []))
section
variable {X:Cx}{pos:Pos}
theorem Zgp:PE X (.Dict [] [] pos) tDNewK:=fun pins s σ H Q I h=>
 wpAny_Dict_empty ⟨.ref s.heap.objs.size,_,I.laid (a:=s.heap.objs.size) (o:=.dK []) (t':=s.toks) (fun _ _ q=>YAB _ q) (YAQ _) (ZgG s.heap I.big),rfl,h _ (I.hok.fresh (YAQ _))⟩
end
noncomputable def Zgc:List (TE×TE)→St→Hp→(List (V×V)→Hp→Prop)→Prop
 | [],_,H,Q=>Q [] H
 | (tk,tv)::r,σ,H,Q=>tk σ H fun x H1=>tv σ H1 fun y H2=>Zgc r σ H2 fun ps H3=>Q ((x,y)::ps) H3
abbrev VV:List (V×V)→List (Value×Value)→Prop:=Paired fun p q=>RelV p.1 q.1∧RelV p.2 q.2
def PPs (X:Cx)(pos:Pos)(keys:List (Option Expr))(values:List Expr)(trs:List (TE×TE)):Prop:=
 ∀(pins:List (Addr×Obj)) (s:Shared) (σ:St) (H:Hp) (Q:List (V×V)→Hp→Prop),Inv X pins σ H s→Zgc trs σ H Q →
  wpAny (model X.prog X.w) X.A (evalPairs (pairTrees keys values X.env pos)) (fun vs s'=>∃ps H',Inv X pins σ H' s'∧VV ps vs∧Q ps H') X.xe s
theorem ZkU {X:Cx}{pos:Pos}:PPs X pos [] [] []:=fun pins s σ H Q I h=>pairTrees_nil_walk ⟨[],H,I,.nil,h⟩
theorem Zja {X:Cx}{pos:Pos}{k v:Expr}{ks:List (Option Expr)}{vs:List Expr}{tk tv:TE}{trs:List (TE×TE)}(hk:PE X k tk)(hv:PE X v tv)(hr:PPs X pos ks vs trs):
  PPs X pos (some k::ks) (v::vs) ((tk,tv)::trs):=fun pins s σ H Q I h=>
 pairTrees_cons_walk (thn (hk pins s σ H _ I h) fun u s1 ⟨x,H1,I1,rx,q1⟩=>thn (hv pins s1 σ H1 _ I1 q1) fun w2 s2 ⟨y,H2,I2,ry,q2⟩=>
  thn (hr pins s2 σ H2 _ I2 q2) fun ws s3 ⟨ps,H3,I3,rel,q3⟩=>⟨(x,y)::ps,H3,I3,.cons ⟨rx,ry⟩ rel,q3⟩)
noncomputable def Zca (kvs more:List (Key×V)):List (Key×V):=more.foldl (fun acc kv=>putK acc kv.1 kv.2) kvs
theorem KV.merge:∀ {more:List (Key×V)} {rs:List (Key×Value)} {kvs:List (Key×V)} {vs:List (Key×Value)},KV more rs→KV kvs vs→KV (Zca kvs more) (merged vs rs):=by
 intro more rs kvs vs r
 unfold KV at r
 induction r generalizing kvs vs with
 | nil=>intro q;exact q
 | @cons p q ps qs h t ih=>
  intro r0
  have e:KV (putK kvs p.1 p.2) (stored vs q.1 q.2):=by
   have:=r0.put p.1 h.2
   rw[←h.1];exact this
  exact ih e
theorem Zcw:∀(more kvs:List (Key×V)),(Zca kvs more).length≤kvs.length+more.length
 | [],kvs=>by show kvs.length≤kvs.length+0;omega
 | p::r,kvs=>by
  have h1:=Zcw r (putK kvs p.1 p.2)
  have h2:=ZbL kvs p.1 p.2
  show (Zca (putK kvs p.1 p.2) r).length≤_
  rw[YAn];omega
theorem Zd6 {P:Program}{w:World}:∀ {kvs:List (Key×V)} {ws:List (Value×Value)},VV (kvs.map fun kv=>(kV kv.1,kv.2)) ws→∃rs,Carries (ZaI P w) ws rs∧KV kvs rs
 | [],_,r=>by rw[YDV]at r;cases r;exact⟨[],True.intro,.nil⟩
 | p::kvs,_,r=>by
  rw[YAf]at r
  cases r with
  | @cons a b as bs h t=>
   obtain⟨rs,c,q⟩:=Zd6 (P:=P) (w:=w) t
   obtain⟨b1,b2⟩:=b
   exact⟨(p.1,b2)::rs,⟨Zjt h.1,rfl,c⟩,.cons ⟨rfl,h.2⟩ q⟩
def ZlW (trs:List (TE×TE)):TE:=fun σ H Q=>∀p,H p=none→Zgc trs σ (upd H p (.dK [])) fun ps H2=>H2 p=some (.dK [])∧∃kvs:List (Key×V),ps=kvs.map (fun kv=>(kV kv.1,kv.2))∧kvs.length≤15∧Q (.ref p) (upd H2 p (.dK (Zca [] kvs)))
theorem ZkW {X:Cx}{pos:Pos}{keys:List (Option Expr)}{values:List Expr}{trs:List (TE×TE)}(h:PPs X pos keys values trs)(hall:keys.all (·.isSome)=true)(hl:keys.length=values.length)(h0:keys≠[])
  (h15:keys.length≤15):PE X (.Dict keys values pos) (ZlW trs):=by
 intro pins s σ H Q I q
 have hn:=I.hok.fresh (YAQ s.heap.objs.size)
 have I1:=I.laid (a:=s.heap.objs.size) (o:=.dK []) (h':=s.heap.push { cls:=.type "dict",data:=.dict #[] }) (t':=s.toks) (fun _ _ q=>YAB _ q) (YAQ _) (ZgG s.heap I.big)
 refine wpAny_Dict_walk (knd:=ZaI X.prog X.w) hall hl h0 h15 (thn (h pins _ σ _ _ I1 (q _ hn)) fun ws s2 ⟨ps,H2,I2,rel,e,kvs,ep,lk,q2⟩=>?_)
 subst ep
 obtain⟨rs,c,rk⟩:=Zd6 (P:=X.prog) (w:=X.w) rel
 obtain⟨z,hd,vs0,r0,dd⟩:=ZjF I2.hok e
 cases r0
 refine⟨rs,c,dd,fun h' dd' hs=>⟨.ref s.heap.objs.size,_,?_,rfl,q2⟩⟩
 have hz:(Zca [] kvs).length≤sizeLine:=by
  have h1:=Zcw kvs []
  rw[List.length_nil]at h1
  rw[sizeLine_eq];omega
 have he:∃q,h'.get? s.heap.objs.size=some q:=let ⟨q,_,_,hq,_⟩:=dd';⟨q,hq⟩
 exact ZfY I2 (by rw[e];exact True.intro) hs he (Zki hz hd (rk.merge .nil) dd')
structure M1 (X:Cx)(o:Expr)(m:Str)(apos:Pos)(e:Expr)(cpos:Pos):Prop where
 base:attributeBase o m X.env (eval o X.env)=eval o X.env
 few:((backTo cpos (starEach [e] X.env)).all (fun x=>!x.1)&&(backToKw cpos (keywordEach [] X.env)).all (fun x=>x.1.isSome)
  && decide (([e]:List Expr).length+([]:List Keyword).length+(if ([]:List Keyword).isEmpty then 0 else 1)<30))=true
 line:(apos.endLine == cpos.line)=true
 trees:backTo cpos (starEach [e] X.env)=[(false,eval e X.env)]
structure M2 (X:Cx)(o:Expr)(m:Str)(apos:Pos)(e f:Expr)(cpos:Pos):Prop where
 base:attributeBase o m X.env (eval o X.env)=eval o X.env
 few:((backTo cpos (starEach [e,f] X.env)).all (fun x=>!x.1)&&(backToKw cpos (keywordEach [] X.env)).all (fun x=>x.1.isSome)
  && decide (([e,f]:List Expr).length+([]:List Keyword).length+(if ([]:List Keyword).isEmpty then 0 else 1)<30))=true
 line:(apos.endLine == cpos.line)=true
 trees:backTo cpos (starEach [e,f] X.env)=[(false,eval e X.env),(false,eval f X.env)]
def IsD (H:Hp)(a:Addr):Prop:=(∃kvs,Rd H a (.dK kvs))∨∃kvs,Rd H a (.dT kvs)
section
variable {X:Cx}{pins:List (Addr×Obj)}{σ:St}{H:Hp}{s:Shared}{a:Addr}{y d:V}{u r:Value}{o:Option V}{A:Around}{E:Value→Shared→Prop}
end
section
variable {X:Cx}{o e f:Expr}{apos cpos:Pos}{td ty tx:TE}
end
section
variable {X:Cx}{pins:List (Addr×Obj)}{σ:St}{H:Hp}{s:Shared}{a:Addr}{kvs:List (Key×V)}{A:Around}{E:Value→Shared→Prop}
end
section
variable {X:Cx}{pins:List (Addr×Obj)}{σ:St}{H:Hp}{s:Shared}{a:Addr}{y:V}{u:Value}{A:Around}{E:Value→Shared→Prop}
end
section
variable {X:Cx}
end
section
variable {κ:Type}[DecidableEq κ]
end
noncomputable def clOf (cells:List (Str×Addr)):List (Str×NameKind)→List (Str×Addr)→List (Str×Addr)
 | [],acc=>acc
 | (n,k)::r,acc=>if k == NameKind.free then clOf cells r ((n,(cells.lookup n).getD 0)::acc) else clOf cells r acc
theorem Zez {cells:List (Str×Addr)}:∀(names:List (Str×NameKind)) (acc:List (Str×Addr)) (p:Str×Addr),p∈acc→p∈clOf cells names acc
 | [],_,_,h=>h
 | (n,k)::r,acc,p,h=>by
  unfold clOf
  split
  ·exact Zez r _ p (YAW _ h)
  ·exact Zez r acc p h
theorem ZeA {cells:List (Str×Addr)}{x:Str}:∀(names:List (Str×NameKind)) (acc:List (Str×Addr)),(x,NameKind.free)∈names→(x,(cells.lookup x).getD 0)∈clOf cells names acc
 | [],_,h=>by cases h
 | (n,k)::r,acc,h=>by
  unfold clOf
  rcases YAK.mp h with e | h
  ·have e1:x=n:=congrArg Prod.fst e
   have e2:NameKind.free=k:=congrArg Prod.snd e
   subst e1 e2
   exact Zez r _ _ YAa
  ·split
   ·exact ZeA r _ h
   ·exact ZeA r _ h
theorem Zf1 {cells:List (Str×Addr)}:∀(names:List (Str×NameKind)) (acc:List (Str×Addr)) (p:Str×Addr),p∈clOf cells names acc→p∈acc∨((p.1,NameKind.free)∈names∧p.2=(cells.lookup p.1).getD 0)
 | [],_,_,h=>.inl h
 | (n,k)::r,acc,p,h=>by
  unfold clOf at h
  split at h
  ·rename_i hk
   have hk':k=NameKind.free:=by simpa using hk
   rcases Zf1 r _ p h with q | ⟨q,e⟩
   ·rcases YAK.mp q with q | q
    ·subst q;subst hk';exact .inr ⟨YAa,rfl⟩
    ·exact .inl q
   ·exact .inr ⟨YAW _ q,e⟩
  ·rcases Zf1 r _ p h with q | ⟨q,e⟩
   ·exact .inl q
   ·exact .inr ⟨YAW _ q,e⟩
theorem Zd5 {sc:Scope}{env:Env}(h:∀y∈sc.names,y.2=NameKind.free→∃c,env.cells.lookup y.1=some c):closureFor sc env=pure (clOf env.cells sc.names []):=by
 have all:∀(names:List (Str×NameKind)) (acc:List (Str×Addr)),(∀y∈names,y.2=NameKind.free→∃c,env.cells.lookup y.1=some c) →
   (forIn names acc fun (y:Str×NameKind) (cs:List (Str×Addr))=>(if (y.2 == NameKind.free)=true then (do let a ←cellOf env y.1;pure (ForInStep.yield ((y.1,a)::cs))) else pure (ForInStep.yield cs):Sem (ForInStep (List (Str×Addr)))))=pure (clOf env.cells names acc):=by
  intro names
  induction names with
  | nil=>intro acc _;rfl
  | cons y r ih=>
   intro acc hy
   obtain⟨n,k⟩:=y
   rw[YBs]
   unfold clOf
   by_cases hk:k=NameKind.free
   ·subst hk
    obtain⟨c,hc⟩:=hy (n,NameKind.free) YAa rfl
    have hc':env.cells.lookup n=some c:=hc
    simp only[beq_self_eq_true,if_true,cellOf,hc',pure_bind,Option.getD_some]
    exact ih _ fun z hz=>hy z (YAW _ hz)
   ·have hb:(k == NameKind.free)=false:=by simpa using hk
    simp only[hb,YCD,if_false,pure_bind]
    exact ih _ fun z hz=>hy z (YAW _ hz)
 have q:=all sc.names [] h
 unfold closureFor
 show (forIn sc.names [] fun (y:Str×NameKind) (cs:List (Str×Addr))=>_) >>= _=_
 first
  | (rw[q];rfl)
  | (refine Eq.trans (congrArg (fun t=>t >>= fun cs=>pure cs) q) ?_;rfl)
structure CmpScope (X:Cx)(sc:Scope):Prop where
 kind:sc.kind=.function
 nocell:∀y∈sc.names,y.2≠NameKind.cell
 loc:∀y∈sc.names,y.2=NameKind.local→sc.names.lookup y.1=some .local
 clos:∀y∈sc.names,y.2=NameKind.free→(X.env.kindOf y.1=some .cell∨X.env.kindOf y.1=some .free)
noncomputable def pick (ix:List (Option Nat))(σ:St):St:=ix.map fun o=>o.bind fun i=>(σ[i]?).join
noncomputable def Ziq (N M:List Str)(sc:Scope)(ix:List (Option Nat)):Bool:=
 ix.length == N.length&&(N.zip ix).all fun p=>match p.2 with | none=>true | some i=>decide (M[i]?=some p.1)&&decide (sc.names.lookup p.1=some NameKind.free)
noncomputable def bx (X:Cx)(sc:Scope)(N:List Str)(fp:List Addr)(s₀:Shared)(H:Hp)(pn:List (Addr×Obj)):Cx:=
 { X with N:=N,s₀:=s₀,H₀:=H,env:=compEnvC sc (clOf X.env.cells sc.names []) s₀.heap.objs.size X.env,outer:=X.stack,stack:=X.stack,ex:=fp,fn:=fun _=>false,pn:=pn,xe:=fun _ _=>False }
theorem Zdl {sc:Scope}{env:Env}{x:Str}{k:NameKind}(h:(relabel sc env).names.lookup x=some k):(x,k)∈sc.names∨(k=.cell∧(x,NameKind.free)∈sc.names):=by
 have m:=YBM h
 unfold relabel at m
 obtain⟨⟨n,k'⟩,hm,e⟩:=YBX.mp m
 dsimp only at e
 split at e
 ·rename_i hc
  have e1:n=x:=congrArg Prod.fst e
  have e2:NameKind.cell=k:=congrArg Prod.snd e
  have e3:k'=NameKind.free:=by
   rw[YAR,YAR]at hc
   simpa using hc.1.1
  subst e1 e2 e3
  exact .inr ⟨rfl,hm⟩
 ·have e1:n=x:=congrArg Prod.fst e
  have e2:k'=k:=congrArg Prod.snd e
  subst e1 e2
  exact .inl hm
theorem ZcS {env:Env}{x:Str}:∀ {names:List (Str×NameKind)},names.lookup x=some NameKind.free →
  (names.map fun (n,k)=>if (k == NameKind.free&&env.scope.kind == .function&&env.kindOf n == some .cell) then (n,NameKind.cell) else (n,k)).lookup x=some .cell ∨
  (names.map fun (n,k)=>if (k == NameKind.free&&env.scope.kind == .function&&env.kindOf n == some .cell) then (n,NameKind.cell) else (n,k)).lookup x=some .free
 | [],h=>by simp at h
 | (n,k)::r,h=>by
  by_cases hx:x=n
  ·subst hx
   simp only[YBD,beq_self_eq_true]at h
   cases h
   simp only[YAf]
   split
   ·left;simp[YBD]
   ·right;simp[YBD]
  ·have hb:(x == n)=false:=by simpa using hx
   simp only[YBD,hb]at h
   have ih:=ZcS (env:=env) h
   simp only[YAf]
   split
   ·simpa only[YBD,hb] using ih
   ·simpa only[YBD,hb] using ih
theorem Zcu {α:Type}{x:Str}{c:α}:∀ {l:List (Str×α)},(x,c)∈l→∃c',l.lookup x=some c'
 | [],h=>by cases h
 | (n,d)::r,h=>by
  by_cases hx:x=n
  ·subst hx;exact⟨d,by simp[YBD]⟩
  ·have hb:(x == n)=false:=by simpa using hx
   rcases YAK.mp h with e | h
   ·exact absurd (congrArg Prod.fst e) hx
   ·obtain⟨c',e⟩:=Zcu h
    exact⟨c',by simpa only[YBD,hb] using e⟩
section
variable {X:Cx}{pins:List (Addr×Obj)}{σ:St}{H:Hp}{s:Shared}{sc:Scope}{N:List Str}{fp:List Addr}{ix:List (Option Nat)}
theorem Inv.capt (I:Inv X pins σ H s)(S:CmpScope X sc):∀y∈sc.names,y.2=NameKind.free→∃c,X.env.cells.lookup y.1=some c:=fun y hy e=>I.ok.has y.1 (S.clos y hy e)
theorem Inv.clcell (I:Inv X pins σ H s)(S:CmpScope X sc){x:Str}{c:Addr}(h:(clOf X.env.cells sc.names []).lookup x=some c):X.env.cells.lookup x=some c:=by
 rcases Zf1 _ _ _ (YBM h) with q | ⟨q,e⟩
 ·cases q
 ·obtain⟨c',hc⟩:=I.capt S _ q rfl
  have hc':X.env.cells.lookup x=some c':=hc
  have e':c=(X.env.cells.lookup x).getD 0:=e
  rw[hc',Option.getD_some]at e'
  rw[e'];exact hc'
theorem Inv.clhas (I:Inv X pins σ H s)(S:CmpScope X sc){x:Str}(h:(x,NameKind.free)∈sc.names):∃c,(clOf X.env.cells sc.names []).lookup x=some c∧X.env.cells.lookup x=some c:=by
 obtain⟨c,e⟩:=Zcu (ZeA (cells:=X.env.cells) sc.names [] h)
 exact⟨c,e,I.clcell S e⟩
theorem Inv.block {h1:Heap}{tk:Nat}{m:Str→Option Value}(I:Inv X pins σ H s)(S:CmpScope X sc)(hix:Ziq N X.N sc ix=true)(hf:∀b∈fp,FpOk X pins H b∧b<s.heap.objs.size)
  (hk:∀b o,s.heap.get? b=some o→h1.get? b=some o) (hn:h1.Ns s.heap.objs.size m):
  Inv (bx X sc N fp s H (X.pn++pins)) [] (pick ix σ) H { s with heap:=h1,toks:=tk }:=by
 have hC:∀b o,s.heap.get? b=some o→b≠s.heap.objs.size:=fun b o e=>YAX (YAH e)
 have hcell:∀x c,(clOf X.env.cells sc.names []).lookup x=some c→∃v,s.heap.IsCell c v:=fun x c e=>I.cell x c (I.clcell S e)
 have stk:∀b,b≠X.env.locals→b∉X.fs→b∉frs X.stack:=fun b h1 h2 hb=>by
  rcases YAK.mp (I.stkSub b hb) with z | z
  ·exact h1 z
  ·exact h2 z
 rw[Ziq,YAR]at hix
 refine⟨⟨I.ok.mod,S.kind,I.ok.glob,I.ok.blt,YAQ _,?_,?_,?_,I.ok.hd,I.ok.frames,.inl rfl,?_,I.bs,YAP I.ok.bsz I.sz,?_,?_,I.stack,I.stkFree⟩,
  rfl,I.bare,Un.kept hk,⟨m,hn,?_⟩,?_,I.fresh,?_,?_,I.hok.kept hk,?_⟩
 ·intro x y c e1 e2
  exact I.ok.inj x y c (I.clcell S e1) (I.clcell S e2)
 ·intro x hx
  have hx:(relabel sc X.env).names.lookup x=some .cell∨(relabel sc X.env).names.lookup x=some .free:=hx
  have hm:(x,NameKind.free)∈sc.names:=by
   rcases hx with hx | hx
   ·rcases Zdl hx with q | ⟨_,q⟩
    ·exact absurd rfl (S.nocell _ q)
    ·exact q
   ·rcases Zdl hx with q | ⟨q,_⟩
    ·exact q
    ·cases q
  obtain⟨c,e,_⟩:=I.clhas S hm
  exact⟨c,e⟩
 ·intro x c z
  cases z
 ·intro b hb
  obtain⟨f,hlt⟩:=hf b hb
  refine⟨YAX hlt,fun x c e=>f.2.2.2.2.1 x c (I.clcell S e)⟩
 ·intro b o e hb
  obtain⟨⟨_,_,_,f3,_⟩,_⟩:=hf b hb
  rcases f3 with z | z
  ·exact I.ok.noex b o e z
  ·exact absurd (YAH e) (YDJ.mpr (YAP I.ok.bsz z))
 ·intro b hb
  obtain⟨⟨_,f1,f2,_⟩,_⟩:=hf b hb
  exact stk b f1 f2
 ·intro i x v e1 e2 e3
  have e1:N[i]?=some x:=e1
  have hi:∃j,ix[i]?=some (some j)∧σ[j]?=some (some v):=by
   unfold pick at e2
   rw[YAo]at e2
   cases q:ix[i]? with
   | none=>rw[q]at e2;cases e2
   | some o=>
    rw[q]at e2
    cases o with
    | none=>cases e2
    | some j=>
     refine⟨j,rfl,?_⟩
     have e4:(σ[j]?).join=some v:=Option.some.inj e2
     cases q2:σ[j]? with
     | none=>rw[q2]at e4;cases e4
     | some w=>rw[q2]at e4;cases w with
      | none=>cases e4
      | some w=>rw[←e4];rfl
  obtain⟨j,hj,hσ⟩:=hi
  have hz:(x,some j)∈N.zip ix:=by
   have q:(N.zip ix)[i]?=some (x,some j):=by rw[List.getElem?_zip_eq_some];exact⟨e1,hj⟩
   exact YAr q
  have hp:=YBE.mp hix.2 _ hz
  dsimp only at hp
  rw[YAR]at hp
  have hM:X.N[j]?=some x:=of_decide_eq_true hp.1
  have hfr:sc.names.lookup x=some NameKind.free:=of_decide_eq_true hp.2
  have hmem:=YBM hfr
  obtain⟨mo,hno,hlo⟩:=I.loc
  have hvis:Vis X.env.scope x:=by
   rcases S.clos _ hmem rfl with z | z
   ·exact .inr (.inl z)
   ·exact .inr (.inr z)
  obtain⟨u,ru,l⟩:=hlo j x v hM hσ hvis
  refine⟨u,ru,.inr ⟨?_,?_⟩⟩
  ·exact ZcS (env:=X.env) hfr
  ·obtain⟨c,e,e'⟩:=I.clhas S hmem
   refine⟨c,e,?_⟩
   rcases l with⟨k,_⟩|⟨_,c',ec,z⟩
   ·rcases S.clos _ hmem rfl with q | q
    ·rw[k]at q;cases q
    ·rw[k]at q;cases q
   ·rw[e']at ec
    cases ec
    obtain⟨o,ho,hd⟩:=z
    exact⟨o,hk _ _ ho,hd⟩
 ·intro x c e
  obtain⟨v,o,ho,hd⟩:=hcell x c e
  exact⟨v,o,hk _ _ ho,hd⟩
 ·intro x c e
  exact I.freeC x c (I.clcell S e)
 ·intro p hp
  have hp:p∈X.pn++pins:=by
   rcases YAe.mp hp with z | z
   ·exact z
   ·cases z
  obtain⟨e,n,ne,nf,d⟩:=I.pin p hp
  exact⟨hk _ _ e,n,hC _ _ e,stk p.1 ne nf,d⟩
 ·show (pick ix σ).length=N.length
  unfold pick
  rw[YAE]
  simpa using hix.1
theorem Inv.unblock {τ:St}{H':Hp}{s':Shared}{h':Heap}(I:Inv X pins σ H s)(hf:∀b∈fp,FpOk X pins H b)(J:Inv (bx X sc N fp s H (X.pn++pins)) [] τ H' s')(hs:Heap.SameBut s.heap.objs.size s'.heap h'):
  Inv X pins σ H' { s' with heap:=h' }:=by
 have nC:∀b o,s.heap.get? b=some o→b≠s.heap.objs.size:=fun b o e=>YAX (YAH e)
 have hfr:H' s.heap.objs.size=none:=J.free
 have u:Un (frs X.stack) fp H H' s.heap s'.heap:=J.base
 have ok:HOk X.prog X.w H' h':=fun b ob e=>by
  refine(J.hok b ob e).stay (fun c w' hc q=>(hs.2 c ?_).trans q) (fun _ q=>q) fun _ _ q=>q
  rintro rfl
  rcases hc with rfl | hc
  ·rw[hfr]at e;cases e
  ·rw[hfr]at hc;cases hc
 refine I.call' (ch:=fp) J.os ⟨fun b o e n h1 h2=>(hs.2 b (nC b o e)).trans (u.keep b o e n h1 h2),fun b o e n h1 h2=>?_,u.free,fun b o e h2=>?_,u.tups,u.frzs,u.tbls⟩ ok J.bare fun b hb=>?_
 ·obtain⟨sl,q⟩:=u.slot b o e n h1 h2
  exact⟨sl,(hs.2 b (nC b o e)).trans q⟩
 ·obtain⟨o',q⟩:=u.there b o e h2
  exact⟨o',(hs.2 b (nC b o e)).trans q⟩
 ·obtain⟨_,f1,_,f3,f4,f5⟩:=hf b hb
  exact⟨f3,f1,f4,f5⟩
end
def PIfs (X:Cx)(ifs:List Expr)(t:TT):Prop:=
 ∀(pins:List (Addr×Obj)) (s:Shared) (σ:St) (H:Hp) (Q:Bool→Hp→Prop),Inv X pins σ H s→t σ H Q →
  wpAny (model X.prog X.w) X.A (forIn ifs true fun c r=>if r=true then do let ok ←isTrue c X.env (eval c X.env);pure (ForInStep.yield ok) else pure (ForInStep.yield r)) (TP X pins σ Q) X.xe s
def tAll:TT:=fun _ H Q=>Q true H
theorem Zcn {X:Cx}:PIfs X [] tAll:=fun _ _ _ H _ I h=>wpAny_tests_nil ⟨H,I,h⟩
theorem Zcm {X:Cx}{c:Expr}{t:TT}(h:PT X c t):PIfs X [c] t:=fun pins s σ H Q I q=>wpAny_tests_one (h pins s σ H Q I q)
theorem Zfq {prog:Program}{w:World}{A:Around}{R:Result→Shared→Prop}{s:Shared}{el tgt iter:Expr}{ifs:List Expr}{scp:Scope}{pos:Pos}{it acc:Value}{env:Env}(W:Nat→Shared→Prop)
  (turn:∀n s,W n s→wpAny (model prog w) A (pyNext it) (fun r s₁=>match r with
   | none=>R (.ok .next) s₁
   | some v=>wpAny (model prog w) A (letOwnedTupleGo tgt it v) (fun _ s₁'=>wpAny (model prog w) A (assign tgt env v) (fun _ s₂=>
     wpAny (model prog w) A (forIn ifs true fun c r=>if r=true then do let ok ←isTrue c env (eval c env);pure (ForInStep.yield ok) else pure (ForInStep.yield r)) (fun ok s₃=>
      if ok=true then wpAny (model prog w) A (eval el env) (fun x s₄=>
       wpAny (model prog w) A (call (.builtin "list.append") [acc,x]) (fun _ s₅=>∃m,m<n∧W m s₅) (fun _ _=>False) s₄) (fun _ _=>False) s₃
      else ∃m,m<n∧W m s₃) (fun _ _=>False) s₂) (fun _ _=>False) s₁') (fun _ _=>False) s₁) (fun _ _=>False) s)
  (n:Nat) (h:W n s):codeAny (model prog w) A (.compLoop (.ListComp el [⟨tgt,iter,ifs,0⟩] scp pos) 0 it acc env) R s:=by
 refine codeAny_loop rfl W (fun n s hI=>?_) n h
 show wpAny _ A ((compTurn (.ListComp el [⟨tgt,iter,ifs,0⟩] scp pos) 0 it acc env).onRaise (fun x=>do noteFrame x env;theTreesLotGoes x)) _ _ s
 refine wpAny_noted ?_
 rw[compTurn_list]
 refine YAA (wpAny_standAt (YAA (YBF (turn n s hI) (fun r s1 q1=>?_) fun _ _ z=>z.elim)))
 cases r with
 | none=>exact YAD q1
 | some v=>
  refine YAA (YBF q1 (fun _ s1' q1'=>?_) fun _ _ z=>z.elim)
  refine YAA (YBF q1' (fun _ s2 q2=>YAA (YBF q2 (fun ok s3 q3=>?_) fun _ _ z=>z.elim)) fun _ _ z=>z.elim)
  cases ok with
  | false=>exact YAD ⟨rfl,q3⟩
  | true=>exact YAA (YAA (YBF q3 (fun x s4 q4=>YAA (YBF q4 (fun _ s5 q5=>YAD (YAD ⟨rfl,q5⟩)) fun _ _ z=>z.elim)) fun _ _ z=>z.elim))
def Zkx (ix:List (Option Nat))(wi:TI)(g:TG)(tt:TT)(te:TE):TE:=fun σ H Q=>wi σ H fun J H1=>∀acc,H1 acc=none→∃W:Nat→Nat→St→Hp→Prop,(∃m,W 0 m (pick ix σ) (upd H1 acc (.lst []))) ∧
 ∀i m τ H2,W i m τ H2→(J.stop i H2∧Q (.ref acc) H2)∨(J.go i H2∧∃Nx:St→Hp→Prop,(∀τ' H',Nx τ' H'→∃m',m'<m∧W (i+1) m' τ' H') ∧
  ∀x H3,J.yld i H2 x H3→g x τ H3 fun τ2 H4=>tt τ2 H4 fun b H5=>if b=true then te τ2 H5 fun y H6=>∃ys,H6 acc=some (.lst ys)∧ys.length<sizeLine∧Nx τ2 (upd H6 acc (.lst (ys++[y]))) else Nx τ2 H5)
section
variable {X:Cx}{sc:Scope}{N:List Str}{ix:List (Option Nat)}{elt tg iter:Expr}{ifs:List Expr}{pos:Pos}{wi:TI}{g:TG}{tt:TT}{te:TE}
theorem Zd4 {Q:VK}{pins:List (Addr×Obj)}{s:Shared}{σ:St}{H:Hp}{it:Addr}{fp:List Addr}{tn:Nat→Heap→Prop}{J:It}{RR:Value→Addr→Result→Shared→Prop}
  (hc:X.calm=true) (S:CmpScope X sc) (hix:Ziq N X.N sc ix=true)
  (hg:∀fp s₀ H₀ pn,PG (bx X sc N fp s₀ H₀ pn) tg g) (ht:∀fp s₀ H₀ pn,PIfs (bx X sc N fp s₀ H₀ pn) ifs tt) (he:∀fp s₀ H₀ pn,PE (bx X sc N fp s₀ H₀ pn) elt te)
  (I:Inv X pins σ H s) (T:Turn X.prog X.w X.K tg J fp it tn) (st:tn 0 s.heap) (hf:∀b∈fp,FpOk X pins H b)
  (q:∀acc,H acc=none→∃W:Nat→Nat→St→Hp→Prop,(∃m,W 0 m (pick ix σ) (upd H acc (.lst []))) ∧
   ∀i m τ H2,W i m τ H2→(J.stop i H2∧Q (.ref acc) H2)∨(J.go i H2∧∃Nx:St→Hp→Prop,(∀τ' H',Nx τ' H'→∃m',m'<m∧W (i+1) m' τ' H') ∧
    ∀x H3,J.yld i H2 x H3→g x τ H3 fun τ2 H4=>tt τ2 H4 fun b H5=>if b=true then te τ2 H5 fun y H6=>∃ys,H6 acc=some (.lst ys)∧ys.length<sizeLine∧Nx τ2 (upd H6 acc (.lst (ys++[y]))) else Nx τ2 H5))
  (hR:∀(acc:Addr) (s₃ s':Shared) (τ:St) (H':Hp),Inv X pins σ (upd H acc (.lst [])) s₃→(∀b∈fp,FpOk X pins (upd H acc (.lst [])) b)→Inv (bx X sc N fp s₃ (upd H acc (.lst [])) (X.pn++pins)) [] τ H' s'→Q (.ref acc) H' →
   RR (.ref acc) s₃.heap.objs.size (.ok .next) s'):
  wpAny (model X.prog X.w) X.A (newList []) (fun acc s₃=>wpAny (model X.prog X.w) X.A (newFunctionEnv sc X.env.globals (clOf X.env.cells sc.names []) [] X.env.qual none .none (some X.env)) (fun cenv s₄=>
   codeAny (model X.prog X.w) X.A (.compStart (.ListComp elt [⟨tg,iter,ifs,0⟩] sc pos) 0 (.ref it) acc { cenv with scope:=relabel sc X.env }) (RR acc cenv.locals) s₄) X.xe s₃) X.xe s:=by
 refine YBY ?_
 have hfr:=I.fresh
 have I3:=I.lnew (its:=[]) (ys:=[]) (t':=s.toks) .nil (YAz _)
 have fne:∀b∈fp,b<s.heap.objs.size:=fun b hb=>by
  obtain⟨o,e,_⟩:=T.obj 0 _ st b hb
  exact YAH e
 have hf3:∀b∈fp,FpOk X pins (upd H s.heap.objs.size (.lst [])) b:=fun b hb=>by
  obtain⟨f0,f⟩:=hf b hb
  refine⟨?_,f⟩
  rw[Zae (YAX (fne b hb))]
  exact f0
 have q3:=q _ hfr
 have st3:tn 0 (s.heap.push { cls:=.type "list",data:=.seq ([]:List Value).toArray }):=T.keep _ _ _ st fun b _ o e=>YAB _ e
 generalize e3:({ s with heap:=s.heap.push { cls:=.type "list",data:=.seq ([]:List Value).toArray },toks:=s.toks }:Shared)=s3 at I3
 have es3:s3.heap=s.heap.push { cls:=.type "list",data:=.seq ([]:List Value).toArray }:=by rw[←e3]
 rw[←es3]at st3
 have hf3':∀b∈fp,FpOk X pins (upd H s.heap.objs.size (.lst [])) b∧b<s3.heap.objs.size:=fun b hb=>⟨hf3 b hb,by rw[es3,YAs];exact YCK (fne b hb)⟩
 refine wpAny_newFunctionEnv S.nocell (by intro y hy;cases hy) (fun h₁ hns₁ hsb₁=>?_) S.kind
 have hk:∀b o,s3.heap.get? b=some o→h₁.get? b=some o:=fun b o e=>hsb₁.extBut b o (YAX (YAH e)) (YAB _ e)
 have I4:=I3.block (N:=N) (ix:=ix) (tk:=s3.toks+([]:List (Str×Value)).length) S hix hf3' hk hns₁
 have st4:tn 0 h₁:=T.keep _ _ _ st3 fun b _ o e=>hk b o e
 obtain⟨W,⟨m0,w0⟩,turn⟩:=q3
 have statN:∀ {H':Hp},(∀b∈fp,H' b=none)→∀b∈fp,FpOk (bx X sc N fp s3 (upd H s.heap.objs.size (.lst [])) (X.pn++pins)) [] H' b:=fun {H'} hn b hb=>by
  obtain⟨⟨_,f1,f2,f3,f4,f5⟩,hlt⟩:=hf3' b hb
  refine⟨hn b hb,YAX hlt,fun z=>?_,.inl hb,fun x c e=>f4 x c (I3.clcell S e),fun p hp=>?_⟩
  ·rcases YAK.mp (I3.stkSub b z) with z | z
   ·exact f1 z
   ·exact f2 z
  ·refine f5 p ?_
   rcases YAe.mp hp with z | z
   ·exact z
   ·cases z
 have loop:∀s4:Shared,s4={ s3 with heap:=h₁,toks:=s3.toks+([]:List (Str×Value)).length } →
   codeAny (model X.prog X.w) X.A (.compLoop (.ListComp elt [⟨tg,iter,ifs,0⟩] sc pos) 0 (.ref it) (.ref s.heap.objs.size) (compEnvC sc (clOf X.env.cells sc.names []) s3.heap.objs.size X.env)) (RR (.ref s.heap.objs.size) s3.heap.objs.size) s4:=by
  rintro s4 rfl
  refine Zfq (fun n s'=>∃i τ H',Inv (bx X sc N fp s3 (upd H s.heap.objs.size (.lst [])) (X.pn++pins)) [] τ H' s'∧tn i s'.heap∧(∀b∈fp,H' b=none)∧W i n τ H') ?_ m0 ⟨0,_,_,I4,st4,fun b hb=>(hf3 b hb).1,w0⟩
  rintro n s5 ⟨i,τ,H5,I5,st5,fr5,w5⟩
  rcases turn i n τ H5 w5 with⟨stop,qn⟩|⟨go,Nx,hN,step⟩
  ·refine thn (T.done (bx X sc N fp s3 (upd H s.heap.objs.size (.lst [])) (X.pn++pins)) rfl rfl rfl hc i [] s5 τ H5 (fun _ _=>False) I5 (statN fr5) st5 stop) fun r s6 ⟨hr,I6⟩=>?_
   subst hr
   exact hR _ _ _ _ _ I3 hf3 I6 qn
  ·refine thn (T.item (bx X sc N fp s3 (upd H s.heap.objs.size (.lst [])) (X.pn++pins)) rfl rfl rfl hc i [] s5 τ H5 (fun _ _=>False) I5 (statN fr5) st5 go) fun r s6 ⟨u,hr,h6⟩=>?_
   subst hr
   refine thn h6 fun _ s7 ⟨x,H7,I7,r7,y7,st7,fr7⟩=>?_
   have I7':=I7.pinned (statN fr7) (T.obj _ _ st7)
   refine thn (hg _ _ _ _ _ s7 τ H7 x u _ I7' r7 (step x H7 y7)) fun _ s8 ⟨τ8,H8,I8,q8⟩=>?_
   have again:∀ {s9:Shared} {τ9:St} {H9:Hp},Inv (bx X sc N fp s3 (upd H s.heap.objs.size (.lst [])) (X.pn++pins)) ([]++ZeS fp s7.heap) τ9 H9 s9→Nx τ9 H9 →
     ∃m,m<n∧∃i τ H',Inv (bx X sc N fp s3 (upd H s.heap.objs.size (.lst [])) (X.pn++pins)) [] τ H' s9∧tn i s9.heap∧(∀b∈fp,H' b=none)∧W i m τ H':=fun {s9 τ9 H9} I9 n9=>by
    obtain⟨m',hm,w9⟩:=hN τ9 H9 n9
    refine⟨m',hm,i+1,τ9,H9,I9.unpinned,T.keep _ _ _ st7 fun b hb o e=>(I9.pin (b,o) (YAy _ (YAy _ (Zb3 hb e)))).1,fun b hb=>?_,w9⟩
    obtain⟨o,e,d⟩:=T.obj _ _ st7 b hb
    exact(I9.pin (b,o) (YAy _ (YAy _ (Zb3 hb e)))).2.1
   refine thn (ht _ _ _ _ _ s8 τ8 H8 _ I8 q8) fun ok s9 ⟨H9,I9,q9⟩=>?_
   cases ok with
   | false=>exact again I9 q9
   | true=>
    rw[YAO rfl]at q9 ⊢
    refine thn (he _ _ _ _ _ s9 τ8 H9 _ I9 q9) fun yv s10 ⟨y,H10,I10,r10,ys,ha,hz,q10⟩=>?_
    refine thn (ZbD _ s10 τ8 H10 (.ref s.heap.objs.size) [y] (.ref s.heap.objs.size) [yv] (fun v H'=>v=.non∧Nx τ8 H') I10 rfl (.cons r10 .nil) ⟨_,ys,y,rfl,rfl,ha,hz,rfl,q10⟩) fun _ s11 ⟨_,H11,I11,_,_,q11⟩=>?_
    exact again I11 q11
 exact codeAny_compStart_list (loop _ rfl) (T.self _ 0 _ _ _ st4 (loop _ rfl))
theorem ZbK (hc:X.calm=true)(S:CmpScope X sc)(hix:Ziq N X.N sc ix=true)(hi:PI X tg iter wi)
  (hg:∀fp s₀ H₀ pn,PG (bx X sc N fp s₀ H₀ pn) tg g) (ht:∀fp s₀ H₀ pn,PIfs (bx X sc N fp s₀ H₀ pn) ifs tt) (he:∀fp s₀ H₀ pn,PE (bx X sc N fp s₀ H₀ pn) elt te)
  (hs:∀x,foldedSetIterable iter X.env x=pure x:=by intro _;rfl):PE X (.ListComp elt [⟨tg,iter,ifs,0⟩] sc pos) (Zkx ix wi g tt te):=by
 intro pins s σ H Q I h
 rw[eval_ListComp]
 refine wpAny_comprehension_free (use:=none) rfl hs (Zd5 (I.capt S)) S.kind S.loc (thn (hi pins s σ H _ I h) fun v s1 h1=>thn h1 fun itv s2 h2=>?_)
 obtain⟨it,fp,tn,J,H2,e,I2,T,st2,f2,q⟩:=h2
 subst e
 refine Zd4 (Q:=Q) (RR:=fun acc C=>compPost (model X.prog X.w) X.A X.xe none (EP X pins σ Q) acc C) hc S hix hg ht he I2 T st2 f2 q ?_
 intro acc s3 s' τ H' I3 hf3 J' qq
 obtain⟨m,hn,_⟩:=J'.loc
 exact⟨m,hn,fun h' hs'=>⟨.ref acc,H',I3.unblock hf3 J' hs',rfl,qq⟩⟩
theorem ZkT {i:Nat}{x:Str}{px spos:Pos}(hsw:swapsWith (.ListComp elt [⟨tg,iter,ifs,0⟩] sc pos) (some (.Name x px)) spos.line X.env=pure true)
  (hN:X.N.Nodup) (hi':X.N[i]?=some x) (hx:X.env.scope.names.lookup x=some .local) (hc:X.calm=true) (S:CmpScope X sc) (hix:Ziq N X.N sc ix=true) (hi:PI X tg iter wi)
  (hg:∀fp s₀ H₀ pn,PG (bx X sc N fp s₀ H₀ pn) tg g) (ht:∀fp s₀ H₀ pn,PIfs (bx X sc N fp s₀ H₀ pn) ifs tt) (he:∀fp s₀ H₀ pn,PE (bx X sc N fp s₀ H₀ pn) elt te)
  (hs:∀x,foldedSetIterable iter X.env x=pure x:=by intro _;rfl):PS X (.Assign [.Name x px] (.ListComp elt [⟨tg,iter,ifs,0⟩] sc pos) spos) (tAsg (Zkx ix wi g tt te) (ZcZ i)):=by
 intro pins s σ H D I h
 rw[exec_Assign_Name_used _ _ _ _ hsw]
 refine YAA (wpAny_standAt (YAA ?_))
 show wpAny _ X.A (do let _ ←comprehension (.ListComp elt [⟨tg,iter,ifs,0⟩] sc pos) sc X.env _ (newList []) false (eval iter X.env) (some (assign (.Name x px) X.env))) _ _ s
 refine YAA (YBF (wpAny_comprehension_free (use:=some (assign (.Name x px) X.env)) (Q:=fun _ s'=>SP X pins D .next s') rfl hs (Zd5 (I.capt S)) S.kind S.loc
  (thn (hi pins s σ H _ I h) fun v s1 h1=>thn h1 fun itv s2 h2=>?_)) (fun _ s' hq=>YAD (YAD hq)) fun _ _ z=>z)
 obtain⟨it,fp,tn,J,H2,e,I2,T,st2,f2,q⟩:=h2
 subst e
 refine Zd4 (Q:=fun y H1=>ZcZ i y σ H1 D.nx) (RR:=fun acc C=>compPost (model X.prog X.w) X.A X.xe (some (assign (.Name x px) X.env)) (fun _ s'=>SP X pins D .next s') acc C) hc S hix hg ht he I2 T st2 f2 q ?_
 intro acc s3 s' τ H' I3 hf3 J' qq
 show wpAny _ X.A (assign (.Name x px) X.env (.ref acc)) _ _ _
 have I5:Inv X pins σ H' s':=I3.unblock hf3 J' (.refl ..)
 obtain⟨m,hn,_⟩:=J'.loc
 have hn:s'.heap.Ns s3.heap.objs.size m:=hn
 have hLC:s3.heap.objs.size≠X.env.locals:=YCu I3.lt
 refine wpAny_assign_Name (ZeM I5 hN hi' (.inl hx) (v:=.ref acc) rfl (fun s6 I6 ⟨a,sb,ha⟩=>?_) (.inr hx))
 have ea:a≠s3.heap.objs.size:=by
  rcases ha with ha | ha
  ·rw[ha];exact YAx hLC
  ·obtain⟨v,o,ho,_⟩:=I3.cell x a ha
   exact YAX (YAH ho)
 refine⟨m,hn.sameBut sb (YAx ea),fun h' hs'=>?_⟩
 have hfr:H' s3.heap.objs.size=none:=J'.free
 refine⟨_,H',?_,qq⟩
 have ok:HOk X.prog X.w H' h':=fun b ob e=>by
  refine(I6.hok b ob e).stay (fun c w' hc q=>(hs'.2 c ?_).trans q) (fun _ q=>q) fun _ _ q=>q
  rintro rfl
  rcases hc with rfl | hc
  ·rw[hfr]at e;cases e
  ·rw[hfr]at hc;cases hc
 have l3:X.s₀.heap.objs.size≤s3.heap.objs.size:=I3.sz
 have cne:∀y c,X.env.cells.lookup y=some c→c≠s3.heap.objs.size:=fun y c e z=>by
  obtain⟨v,o,ho,_⟩:=I3.cell y c e
  exact absurd (YAH ho) (by rw[z];exact YAv _)
 exact I6.turned (t':=s6.toks) (it:=s3.heap.objs.size) (fun b o hb e=>(hs'.2 b hb).trans e) hfr hLC (.inr l3) cne fun p hp z=>by
  have:=(I3.pin p hp).1
  exact absurd (YAH this) (by rw[z];exact YAv _)
end
abbrev tx (l:List Nat):V:=.str ⟨l.toArray⟩
theorem ZdR {a b:List Nat}:tx a=tx b↔a=b:=by
 constructor
 ·intro h
  have h1:(⟨a.toArray⟩:Str)=⟨b.toArray⟩:=V.str.inj h
  have h2:a.toArray=b.toArray:=congrArg Str.cps h1
  simpa using h2
 ·rintro rfl;rfl
theorem ZcV {a b:List Nat}:decide (tx a=tx b)=decide (a=b):=by
 by_cases h:a=b
 ·subst h;simp
 ·rw[decide_eq_false h,decide_eq_false fun z=>h (ZdR.mp z)]
theorem ZcY (l:List Nat):(⟨l.toArray⟩:Str).length=l.length:=by
 show l.toArray.size=l.length
 simp
def rT (C:List Nat→List Nat→Prop)(g:List Nat→List Nat→V):R2:=fun x y H Q=>∃a b,x=tx a∧y=tx b∧C a b∧Q (g a b) H
noncomputable def cut {α:Type}(l:List α)(lo hi:Option Int):List α:=(l.drop (HT.sIx l.length 0 lo)).take (HT.sIx l.length l.length hi-HT.sIx l.length 0 lo)
theorem ZbG {α:Type}(l:List α)(lo hi:Option Int):(cut l lo hi).length≤l.length:=by
 unfold cut
 rw[YAb,YAm]
 omega
theorem Zkl {α:Type}(l:List α)(a b:Nat):cut l (some (a:Int)) (some (b:Int))=(l.drop a).take (b-a):=by
 unfold cut
 rw[HT.sIx_nat,HT.sIx_nat]
 apply YCh
 intro i
 simp only[YCX,YCY]
 by_cases h1:i<min b l.length-min a l.length
 ·rw[YAO h1,YAO (by omega)]
  congr 1;omega
 ·rw[YAJ h1]
  by_cases h2:i<b-a
  ·rw[YAO h2,YBO (by omega)]
  ·rw[YAJ h2]
theorem Zfp {α:Type}(l:List α)(b:Nat):cut l none (some (b:Int))=l.take b:=by
 unfold cut
 rw[HT.sIx_nat,HT.sIx_none]
 apply YCh
 intro i
 simp only[YCX,YCY,Nat.zero_add,Nat.sub_zero]
 by_cases h1:i<min b l.length
 ·rw[YAO h1,YAO (by omega)]
 ·rw[YAJ h1]
  by_cases h2:i<b
  ·rw[YAO h2,YBO (by omega)]
  ·rw[YAJ h2]
theorem Zb5 {α:Type}(l:List α)(a:Nat):cut l (some (a:Int)) none=l.drop a:=by
 unfold cut
 rw[HT.sIx_nat,HT.sIx_none]
 apply YCh
 intro i
 simp only[YCX,YCY]
 by_cases h1:i<l.length-min a l.length
 ·rw[YAO h1];congr 1;omega
 ·rw[YAJ h1,YBO (by omega)]
noncomputable def clp (n:Nat)(v:Option Int)(d:Int):Int:=match v with
 | none=>d
 | some i=>max 0 (min (if i<0 then i+(n:Int) else i) (n:Int))
theorem Zkm (n d:Nat)(o:Option Int):clp n o (d:Int)=((HT.sIx n d o:Nat):Int):=by
 cases o with
 | none=>rw[HT.sIx_none];rfl
 | some v=>
  have:=HT.clip_eq v n d
  unfold clp
  dsimp only
  rw[←this]
  split<;>omega
theorem ZhC (lo hi:Option Int)(n:Nat):Builtin.Str.strSliceIndices lo hi 1 n=(List.range (HT.sIx n n hi-HT.sIx n 0 lo)).map fun k=>HT.sIx n 0 lo+k:=by
 have g:Builtin.Str.strSliceIndices lo hi 1 n=sliceRange (clp n lo ((0:Nat):Int)) (clp n hi (n:Int)) 1:=by
  cases lo<;>cases hi<;>rfl
 rw[g,Zkm,Zkm]
 generalize HT.sIx n 0 lo=a
 generalize HT.sIx n n hi=b
 unfold sliceRange
 have hc:(if (1:Int)>0 then (if (a:Int)<(b:Int) then ((b:Int)-a+1-1)/1 else 0) else (if (a:Int)>(b:Int) then ((a:Int)-b-1-1)/(-1) else 0)).toNat=b-a:=by
  simp only[show (1:Int)>0 by decide,if_true,Int.ediv_one]
  split<;>omega
 dsimp only
 rw[hc]
 apply YDQ
 intro k _
 omega
theorem ZiX (l:List Nat)(lo hi:Option Int):Txt.slice ⟨l.toArray⟩ lo hi=⟨(cut l lo hi).toArray⟩:=by
 have h1:=HT.sIx_le l.length 0 (YAz _) lo
 have h2:=HT.sIx_le l.length l.length (YAQ _) hi
 unfold Txt.slice
 rw[ZcY,ZhC]
 have e:((List.range (HT.sIx l.length l.length hi-HT.sIx l.length 0 lo)).map fun k=>HT.sIx l.length 0 lo+k).filterMap (fun i=>l.toArray[i]?)=cut l lo hi:=by
  unfold cut
  generalize HT.sIx l.length 0 lo=a at *
  generalize HT.sIx l.length l.length hi=b at *
  have hab:∀n,a+n≤l.length→((List.range n).map fun k=>a+k).filterMap (fun i=>l.toArray[i]?)=(l.drop a).take n:=by
   intro n
   induction n with
   | zero=>intro _;simp
   | succ n ih=>
    intro hn
    rw[YBq,YCM,List.filterMap_append,ih (by omega),List.take_add_one]
    have:(l.drop a)[n]?=l[a+n]?:=YCY
    simp[this,YAM (show a+n<l.length by omega)]
  by_cases hle:a≤b
  ·exact hab _ (by omega)
  ·have:b-a=0:=by omega
   rw[this];simp
 split
 ·rename_i hc
  simp only[beq_self_eq_true,YCC,YAE,YBV]at hc
  have hc':HT.sIx l.length l.length hi-HT.sIx l.length 0 lo=l.length:=by simpa using hc
  have:cut l lo hi=l:=by
   unfold cut
   have ha:HT.sIx l.length 0 lo=0:=by omega
   rw[hc',ha,YBb,YAq (YAQ _)]
  rw[this]
 ·show (⟨(List.filterMap (fun i=>l.toArray[i]?) _).toArray⟩:Str)=_
  rw[e]
section
variable {X:Cx}
theorem ZaP:OpR X (binaryOp .Add) (rT (fun a b=>a.length+b.length≤sizeLine) fun a b=>tx (a++b)):=by
 rintro pins s σ H x y v u Q I rx ry ⟨a,b,rfl,rfl,hz,q⟩
 refine Zg0 pins s σ H _ _ v u Q I rx ry ⟨_,_,rfl,rfl,by rw[ZcY,ZcY];exact hz,?_⟩
 have e:((⟨a.toArray⟩:Str)++(⟨b.toArray⟩:Str))=⟨(a++b).toArray⟩:=by
  show (⟨a.toArray++b.toArray⟩:Str)=_
  simp
 rw[e];exact q
theorem ZgZ:OpR X (compareOp .In) (fun x y H Q=>∃c l,x=tx [c]∧y=tx l∧Q (.bl (decide (c∈l))) H):=by
 rintro pins s σ H x y v u Q I rx ry ⟨c,l,rfl,rfl,q⟩
 refine ZeX pins s σ H _ _ v u Q I rx ry ⟨_,_,rfl,rfl,?_⟩
 have e:=StrLaws.found_one ⟨l.toArray⟩ c
 have e':(!(Builtin.Str.occurrences ⟨l.toArray⟩ ⟨[c].toArray⟩ 0 (⟨l.toArray⟩:Str).length 1).isEmpty)=decide (c∈l):=by
  rw[show ([c].toArray)=#[c] from rfl,e]
 rw[e'];exact q
theorem Zef:OpR X (compareOp .NotIn) (fun x y H Q=>∃c l,x=tx [c]∧y=tx l∧Q (.bl (!decide (c∈l))) H):=by
 rintro pins s σ H x y v u Q I rx ry ⟨c,l,rfl,rfl,q⟩
 refine ZcU pins s σ H _ _ v u Q I rx ry ⟨_,_,rfl,rfl,?_⟩
 have e:=StrLaws.found_one ⟨l.toArray⟩ c
 have e':(!(Builtin.Str.occurrences ⟨l.toArray⟩ ⟨[c].toArray⟩ 0 (⟨l.toArray⟩:Str).length 1).isEmpty)=decide (c∈l):=by
  rw[show ([c].toArray)=#[c] from rfl,e]
 rw[e'];exact q
theorem ZcH:IxR X (fun x y H Q=>∃l i c,x=tx l∧y=.int i∧l.length≤sizeLine∧atI l i=some c∧Q (tx [c]) H):=by
 rintro value slice pins s σ H x y v u Q I rx ry ⟨l,i,c,rfl,rfl,hz,h,q⟩ hs
 exact Znh value slice pins s σ H _ _ v u Q I rx ry ⟨_,i,c,rfl,rfl,by rw[ZcY];exact hz,h,q⟩ hs
theorem Zbz:SlR X (fun x lo hi H Q=>∃l,x=tx l∧l.length≤sizeLine∧Q (tx (cut l lo hi)) H):=by
 rintro pins s σ H x v vl vu lo hi sl Q I rx hs pl pu ⟨l,rfl,hz,q⟩
 obtain⟨t,rfl⟩:=rx
 refine⟨"str",_,F.slot_str_getitem.lookup,typeIs_str _ _ _,?_⟩
 have part:∀ {v:Value} {o:Option Int},IsPart v o→∃p:Option (Int×Tok),v=partValue p∧p.map (·.1)=o:=fun {v o} h=>by
  cases h with
  | none=>exact⟨none,rfl,rfl⟩
  | int i t=>exact⟨some (i,t),rfl,rfl⟩
 obtain⟨a,rfl,ea⟩:=part pl
 obtain⟨b,rfl,eb⟩:=part pu
 refine wpAny_getItem_str_slice (l:=a) (u:=b) (st:=none) hs rfl ?_
 have e:(if ((1:Int) == 1&&(Builtin.Str.strSliceIndices lo hi 1 (⟨l.toArray⟩:Str).length).length == (⟨l.toArray⟩:Str).length)=true then (⟨l.toArray⟩:Str) else ⟨((Builtin.Str.strSliceIndices lo hi 1 (⟨l.toArray⟩:Str).length).filterMap ((⟨l.toArray⟩:Str).cps[·]?)).toArray⟩)=⟨(cut l lo hi).toArray⟩:=ZiX l lo hi
 unfold sliceMade slicePicked
 rw[ea,eb]
 refine post_val_or_str ?_
 refine⟨?_,fun t' k=>?_⟩
 ·show (if ((1:Int) == 1&&(Builtin.Str.strSliceIndices lo hi 1 (⟨l.toArray⟩:Str).length).length == (⟨l.toArray⟩:Str).length)=true then (⟨l.toArray⟩:Str) else ⟨((Builtin.Str.strSliceIndices lo hi 1 (⟨l.toArray⟩:Str).length).filterMap ((⟨l.toArray⟩:Str).cps[·]?)).toArray⟩).length≤sizeLine
  rw[e,ZcY]
  exact YAP (ZbG _ _ _) hz
 ·refine⟨tx (cut l lo hi),H,I.tok _,⟨t',?_⟩,q⟩
  exact congrArg (fun z=>Value.str z t') e
noncomputable def glue (sep:List Nat):List (List Nat)→List Nat
 | []=>[]
 | [x]=>x
 | x::r=>x++sep++glue sep r
theorem ZgC:∀ls:List (List Nat),glue [] ls=ls.flatten
 | []=>rfl
 | [x]=>by simp[glue]
 | x::y::r=>by
  show x++[]++glue [] (y::r)=_
  rw[ZgC (y::r)]
  simp
theorem Zim (sep:List Nat):∀ls:List (List Nat),Str.join ⟨sep.toArray⟩ (ls.map fun l=>(⟨l.toArray⟩:Str))=⟨(glue sep ls).toArray⟩
 | []=>rfl
 | [x]=>rfl
 | x::y::r=>by
  have ih:=Zim sep (y::r)
  show (⟨x.toArray⟩:Str)++⟨sep.toArray⟩++Str.join ⟨sep.toArray⟩ ((y::r).map fun l=>(⟨l.toArray⟩:Str))=_
  rw[ih]
  show (⟨x.toArray++sep.toArray++(glue sep (y::r)).toArray⟩:Str)=⟨(x++sep++glue sep (y::r)).toArray⟩
  simp
theorem ZcF:∀ {ls:List (List Nat)} {us:List Value},Vals (ls.map tx) us→StrsAre us (ls.map fun l=>(⟨l.toArray⟩:Str))
 | [],us,r=>by
  rw[YDV]at r;cases r;exact .nil
 | l::ls,us,r=>by
  rw[YAf]at r
  cases r with
  | cons r1 r2=>
   obtain⟨t,e⟩:=r1
   subst e
   exact .cons _ t (ZcF r2)
theorem Zk5:MtM X "str.join" (fun x vs H Q=>∃sep a ls,x=tx sep∧vs=[.ref a]∧H a=some (.lst (ls.map tx))∧(ls.map List.length).sum+ls.length*sep.length≤16777216∧Q (tx (glue sep ls)) H):=by
 rintro pins s σ H x vs v us Q I rx rv ⟨sep,a,ls,rfl,rfl,ha,hz,q⟩
 obtain⟨t,rfl⟩:=rx
 obtain⟨u,rfl,ru⟩:=rv.one
 cases ru
 obtain⟨_,its,n,r,_,e⟩:=I.lstM ha
 refine join_list (PySem.IsL.isList e) (ZcF (by simpa using r)) ?_ fun t' k=>?_
 ·have e1:((ls.map fun l=>(⟨l.toArray⟩:Str)).map (·.length)).sum=(ls.map List.length).sum:=by
   rw[YBZ]
   congr 1
   all_goals (apply YDQ;intro l _;exact ZcY l)
  rw[e1,YAE,ZcY]
  exact hz
 ·refine⟨tx (glue sep ls),H,I.tok _,⟨t',?_⟩,q⟩
  have e2:Txt.join ⟨sep.toArray⟩ (ls.map fun l=>(⟨l.toArray⟩:Str))=⟨(glue sep ls).toArray⟩:=by
   show Builtin.Str.glued _ _=_
   rw[StrLaws.glued_eq_join,Zim]
  rw[e2]
end
noncomputable def Its (l:List Nat):It:=⟨fun i _=>i<l.length,fun i H x H'=>H'=H∧∃c,l[i]?=some c∧x=tx [c],fun i _=>l.length≤i⟩
theorem Zhw {P:Program} {w:World} {K:PySem.W.Frag} {tg:Expr} (l:List Nat) (t:Tok) (it:Addr) (ty:String) (hty:ty="str_ascii_iterator"∨ty="str_iterator"):Turn P w K tg (Its l) [it] it (fun i h=>h.IsStrIter it ty ⟨l.toArray⟩ t i) where
 mem:=by simp
 obj:=fun i h st b hb=>by
  have e:b=it:=by simpa using hb
  subst e
  obtain⟨o,e,c,d⟩:=st
  exact⟨o,e,fun v z=>by rw[d]at z;cases z⟩
 keep:=fun i h h' st k=>by
  obtain⟨o,e,r⟩:=st
  exact⟨o,k it (by simp) o e,r⟩
 item:=by
  intro X hP hw hK hc i pins s σ H E I hf st hg
  subst hP hw hK
  obtain⟨f0,f1,f2,f3,f4,f5⟩:=hf it (by simp)
  have hg:i<l.length:=hg
  have hx:(⟨l.toArray⟩:Str).cps[i]?=some l[i]:=by
   show l.toArray[i]?=some l[i]
   simp[hg]
  have fin:∀(h':Heap) (tk:Tok),h'.IsStrIter it ty ⟨l.toArray⟩ t (i+1)→Heap.SameBut it s.heap h' →
    ∃u,some (Value.str ⟨#[l[i]]⟩ s.toks)=some u∧wpAny (model X.prog X.w) X.A (letOwnedTupleGo tg (.ref it) u) (fun _ s2=>∃x H',Inv X pins σ H' s2∧RelV x u∧(Its l).yld i H x H'∧s2.heap.IsStrIter it ty ⟨l.toArray⟩ t (i+1)∧∀b∈[it],H' b=none) E { s with heap:=h',toks:=tk }:=fun h' tk st' sb=>by
   have I1:Inv X pins σ H { s with heap:=h',toks:=tk }:=I.turned (t':=tk) (fun b o hb e=>(sb.2 b hb).trans e) f0 f1 f3 f4 f5
   obtain⟨o,e,c,d⟩:=id st'
   refine⟨_,rfl,Zln (s:={ s with heap:=h',toks:=tk }) e c d ?_ ⟨tx [l[i]],H,I1,⟨_,rfl⟩,⟨rfl,l[i],by simp[hg],rfl⟩,st',fun b hb=>(hf b hb).1⟩⟩
   rcases hty with rfl | rfl<;>decide
  rcases hty with rfl | rfl
  ·exact wpAny_pyNext_ascii_item st hx fun h' st' sb=>fin h' _ st' sb
  ·exact wpAny_pyNext_wide_item st hx fun h' st' sb=>fin h' _ st' sb
 done:=by
  intro X hP hw hK hc i pins s σ H E I hf st hg
  subst hP hw hK
  obtain⟨f0,f1,f2,f3,f4,f5⟩:=hf it (by simp)
  have hg:l.length≤i:=hg
  have hx:(⟨l.toArray⟩:Str).cps[i]?=none:=by
   show l.toArray[i]?=none
   simp[hg]
  rcases hty with rfl | rfl
  ·exact wpAny_pyNext_ascii_end (I.ok.hd hc) st hx fun h' eb=>⟨rfl,I.turned (t':=s.toks) (fun b o hb e=>eb b o hb e) f0 f1 f3 f4 f5⟩
  ·exact wpAny_pyNext_wide_end (I.ok.hd hc) st hx fun h' eb=>⟨rfl,I.turned (t':=s.toks) (fun b o hb e=>eb b o hb e) f0 f1 f3 f4 f5⟩
 self:=by
  intro A i s Q E st h
  rcases hty with rfl | rfl
  ·exact wpAny_pyIter_striter_ascii st h
  ·exact wpAny_pyIter_striter_wide st h
section
variable {X:Cx}{tg:Expr}
def Znp (tl:TE):TI:=fun σ H R=>tl σ H fun x H1=>∃l,x=tx l∧R (Its l) H1
theorem Zdm {l:Expr}{tl:TE}(hl:PE X l tl):PI X tg l (Znp tl):=by
 intro pins s σ H R I h
 refine thn (hl pins s σ H _ I h) fun v s1 ⟨x,H1,I1,r1,q1⟩=>?_
 obtain⟨l,rfl,q⟩:=q1
 obtain⟨t,rfl⟩:=r1
 have fin:∀ty,(ty="str_ascii_iterator"∨ty="str_iterator")→PIE X pins σ tg R (.ref s1.heap.objs.size) { s1 with heap:=s1.heap.push { cls:=.type ty,data:=.fields #[.str ⟨l.toArray⟩ t,.int 0 0] } }:=fun ty hty=>by
  refine⟨s1.heap.objs.size,[s1.heap.objs.size],_,_,H1,rfl,I1.kept (t':=s1.toks) fun b o e=>YAB _ e,Zhw l t _ ty hty,⟨_,YAG _ rfl,rfl,rfl⟩,fun b hb=>?_,q⟩
  have e:b=s1.heap.objs.size:=by simpa using hb
  subst e
  exact I1.fpOk (YAQ _) (I1.hok.fresh (YAQ _))
 cases ha:(⟨l.toArray⟩:Str).cps.all (· < 128)
 ·exact wpAny_pyIter_wide ha (fin _ (.inr rfl))
 ·exact wpAny_pyIter_ascii ha (fin _ (.inl rfl))
end
theorem Zjy {l:List Nat}{g:TG}{tb:TS}{D:Ends}{σ:St}{H:Hp}(Pv:Nat→St→Hp→Prop)(h0:Pv 0 σ H)
  (hs:∀i c σ H,l[i]?=some c→Pv i σ H→g (tx [c]) σ H fun σ2 H2=>tb { D with nx:=Pv (i+1),ct:=Pv (i+1),bk:=D.nx } σ2 H2) (hd:∀σ H,Pv l.length σ H→D.nx σ H):
  ∃W:Nat→Nat→St→Hp→Prop,(∃m,W 0 m σ H)∧∀i m σ H,W i m σ H →
   ((Its l).stop i H∧D.nx σ H)∨((Its l).go i H∧∃N:St→Hp→Prop,(∀σ' H',N σ' H'→∃m',m'<m∧W (i+1) m' σ' H')∧∀x H',(Its l).yld i H x H'→g x σ H' fun σ2 H2=>tb { D with nx:=N,ct:=N,bk:=D.nx } σ2 H2):=by
 refine⟨fun i m σ H=>m=l.length-i∧i≤l.length∧Pv i σ H,⟨l.length,by simp,YAz _,h0⟩,?_⟩
 rintro i m σ H ⟨rfl,hi,p⟩
 by_cases hlt:i<l.length
 ·refine .inr ⟨hlt,Pv (i+1),fun σ' H' p'=>⟨l.length-(i+1),by omega,rfl,hlt,p'⟩,fun x H' y=>?_⟩
  obtain⟨e,c,hc,y⟩:=y
  subst e y
  exact hs i c σ _ hc p
 ·have e:i=l.length:=by omega
  subst e
  exact .inl ⟨YAQ _,hd σ H p⟩
inductive DT where
 | f (v:V)
 | l (xs:List DT)
 | t (xs:List DT)
section
variable (K:PySem.W.Frag)(H:Hp)
mutual
noncomputable def DatOk:DT→V→Prop
 | .f w,v=>v=w∧Zbb w=true
 | .l ds,v=>∃a vs,v=.ref a∧SqL K H a vs∧DatsOk ds vs
 | .t ds,v=>∃a vs,v=.ref a∧SqT K H a vs∧DatsOk ds vs
noncomputable def DatsOk:List DT→List V→Prop
 | [],vs=>vs=[]
 | d::ds,vs=>∃v r,vs=v::r∧DatOk d v∧DatsOk ds r
end
end
mutual
noncomputable def deq:DT→DT→Bool
 | .f v,.f w=>eqV v w
 | .l xs,.l ys=>deqs xs ys
 | .t xs,.t ys=>deqs xs ys
 | .f _,.l _=>false
 | .f _,.t _=>false
 | .l _,.f _=>false
 | .t _,.f _=>false
 | .l _,.t _=>false
 | .t _,.l _=>false
noncomputable def deqs:List DT→List DT→Bool
 | [],[]=>true
 | x::xs,y::ys=>deq x y&&deqs xs ys
 | [],_::_=>false
 | _::_,[]=>false
end
mutual
noncomputable def dep:DT→Nat
 | .f _=>0
 | .l xs=>deps xs+1
 | .t xs=>deps xs+1
noncomputable def deps:List DT→Nat
 | []=>0
 | x::xs=>max (dep x) (deps xs)
end
theorem Zet {v:V}(h:Zbb v=true):eqV v v=true:=by
 cases v<;>first | rfl | (simp[eqV];done) | exact absurd (show false=true from h) YAC
theorem DatsOk.length {K:PySem.W.Frag}{H:Hp}:∀ {ds:List DT} {vs:List V},DatsOk K H ds vs→vs.length=ds.length
 | [],vs,h=>by
  unfold DatsOk at h;subst h;rfl
 | d::ds,vs,h=>by
  unfold DatsOk at h
  obtain⟨v,r,rfl,_,hr⟩:=h
  rw[YAn,YAn,DatsOk.length hr]
noncomputable def ZaS (xs ys:List DT)(j:Nat):Bool:=match xs[j]?,ys[j]? with
 | some x,some y=>deq x y
 | _,_=>false
theorem ZfV:∀xs ys:List DT,deqs xs ys=((List.range (min xs.length ys.length)).all (ZaS xs ys)&&xs.length == ys.length)
 | [],[]=>by simp[deqs]
 | [],_::_=>by simp[deqs]
 | _::_,[]=>by simp[deqs]
 | x::xs,y::ys=>by
  have e:min (x::xs).length (y::ys).length=min xs.length ys.length+1:=by simp only[YAn];omega
  have e2:∀j,ZaS (x::xs) (y::ys) (j+1)=ZaS xs ys j:=fun j=>by simp[ZaS]
  have e3:ZaS (x::xs) (y::ys) 0=deq x y:=by simp[ZaS]
  rw[deqs,ZfV xs ys,e,List.range_succ_eq_map,List.all_cons,e3,List.all_map]
  have e4:((fun j=>ZaS (x::xs) (y::ys) j) ∘ Nat.succ)=ZaS xs ys:=by funext j;exact e2 j
  have e5:(ZaS (x::xs) (y::ys) ∘ Nat.succ)=ZaS xs ys:=e4
  rw[e5,Bool.and_assoc]
  simp
mutual
theorem DatOk.uniq {K:PySem.W.Frag}{X:Cx}{pins:List (Addr×Obj)}{σ:St}{H:Hp}{s:Shared}(I:Inv X pins σ H s):∀(d e:DT) (v:V),DatOk X.K H d v→DatOk X.K H e v→deq d e=true
 | .f w,.f u,v,h1,h2=>by
  unfold DatOk at h1 h2
  obtain⟨rfl,hf⟩:=h1
  obtain⟨e,_⟩:=h2
  subst e
  unfold deq
  exact Zet hf
 | .f w,.l ys,v,h1,h2=>by
  unfold DatOk at h1 h2
  obtain⟨rfl,hf⟩:=h1
  obtain⟨a,vs,rfl,_⟩:=h2
  exact absurd (show false=true from hf) YAC
 | .f w,.t ys,v,h1,h2=>by
  unfold DatOk at h1 h2
  obtain⟨rfl,hf⟩:=h1
  obtain⟨a,vs,rfl,_⟩:=h2
  exact absurd (show false=true from hf) YAC
 | .l xs,.f w,v,h1,h2=>by
  unfold DatOk at h1 h2
  obtain⟨rfl,hf⟩:=h2
  obtain⟨a,vs,rfl,_⟩:=h1
  exact absurd (show false=true from hf) YAC
 | .t xs,.f w,v,h1,h2=>by
  unfold DatOk at h1 h2
  obtain⟨rfl,hf⟩:=h2
  obtain⟨a,vs,rfl,_⟩:=h1
  exact absurd (show false=true from hf) YAC
 | .l xs,.l ys,v,h1,h2=>by
  unfold DatOk at h1 h2
  obtain⟨a,vs,rfl,q1,r1⟩:=h1
  obtain⟨b,ws,e,q2,r2⟩:=h2
  cases e
  have:=I.list_inj q1 q2
  subst this
  unfold deq
  exact DatsOk.uniq (K:=K) I xs ys vs r1 r2
 | .t xs,.t ys,v,h1,h2=>by
  unfold DatOk at h1 h2
  obtain⟨a,vs,rfl,q1,r1⟩:=h1
  obtain⟨b,ws,e,q2,r2⟩:=h2
  cases e
  have:=I.tuple_inj q1 q2
  subst this
  unfold deq
  exact DatsOk.uniq (K:=K) I xs ys vs r1 r2
 | .l xs,.t ys,v,h1,h2=>by
  unfold DatOk at h1 h2
  obtain⟨a,vs,rfl,q1,r1⟩:=h1
  obtain⟨b,ws,e,q2,r2⟩:=h2
  cases e
  obtain⟨_,_,⟨o,n,e1,c1,_⟩,_⟩:=I.list q1
  obtain⟨_,_,⟨o',e2,c2,_⟩,_⟩:=I.tuple q2
  rw[e1]at e2;cases e2
  rw[c1]at c2;exact absurd c2 (by simp)
 | .t xs,.l ys,v,h1,h2=>by
  unfold DatOk at h1 h2
  obtain⟨a,vs,rfl,q1,r1⟩:=h1
  obtain⟨b,ws,e,q2,r2⟩:=h2
  cases e
  obtain⟨_,_,⟨o',e2,c2,_⟩,_⟩:=I.tuple q1
  obtain⟨_,_,⟨o,n,e1,c1,_⟩,_⟩:=I.list q2
  rw[e1]at e2;cases e2
  rw[c1]at c2;exact absurd c2 (by simp)
theorem DatsOk.uniq {K:PySem.W.Frag}{X:Cx}{pins:List (Addr×Obj)}{σ:St}{H:Hp}{s:Shared}(I:Inv X pins σ H s):∀(xs ys:List DT) (vs:List V),DatsOk X.K H xs vs→DatsOk X.K H ys vs→deqs xs ys=true
 | [],[],vs,h1,h2=>by unfold deqs;rfl
 | [],y::ys,vs,h1,h2=>by
  unfold DatsOk at h1 h2
  subst h1
  obtain⟨_,_,e,_⟩:=h2
  cases e
 | x::xs,[],vs,h1,h2=>by
  unfold DatsOk at h1 h2
  subst h2
  obtain⟨_,_,e,_⟩:=h1
  cases e
 | x::xs,y::ys,vs,h1,h2=>by
  unfold DatsOk at h1 h2
  obtain⟨v,r,rfl,a1,a2⟩:=h1
  obtain⟨v',r',e,b1,b2⟩:=h2
  cases e
  unfold deqs
  rw[DatOk.uniq (K:=K) I x y v a1 b1,DatsOk.uniq (K:=K) I xs ys r a2 b2]
  rfl
end
section
variable {X:Cx}{pins:List (Addr×Obj)}{σ:St}{H:Hp}{s:Shared}
open SeqAt
theorem Zev {A:Around}{w:V}{u:Value}{l:Addr}{items:Array Value}(hf:Zbb w=true)(r:RelV w u)(hl:s.heap.IsList l items)(hu:A.units<cLine):EqAt A s u (.ref l) false∧EqAt A s (.ref l) u false∧RcAt A s u (.ref l) false∧RcAt A s (.ref l) u false∧RcNeAt A s u (.ref l) true∧RcNeAt A s (.ref l) u true:=by
 cases w with
 | non=>cases r;exact⟨.none_list hl hu,.list_none hl hu,.none_list hl hu,.list_none hl hu,.none_list hl hu,.list_none hl hu⟩
 | bl b=>cases r;exact⟨.bool_list b hl hu,.list_bool b hl hu,.bool_list b hl hu,.list_bool b hl hu,.bool_list b hl hu,.list_bool b hl hu⟩
 | int i=>obtain⟨t,rfl⟩:=r;exact⟨.int_list i t hl hu,.list_int i t hl hu,.int_list i t hl hu,.list_int i t hl hu,.int_list i t hl hu,.list_int i t hl hu⟩
 | str i=>obtain⟨t,rfl⟩:=r;exact⟨.str_list i t hl hu,.list_str i t hl hu,.str_list i t hl hu,.list_str i t hl hu,.str_list i t hl hu,.list_str i t hl hu⟩
 | _=>exact absurd (show false=true from hf) YAC
theorem Zeu {A:Around}{w:V}{u:Value}{l:Addr}{items:Array Value}(hf:Zbb w=true)(r:RelV w u)(hl:s.heap.IsTuple l items)(hu:A.units<cLine):EqAt A s u (.ref l) false∧EqAt A s (.ref l) u false∧RcAt A s u (.ref l) false∧RcAt A s (.ref l) u false∧RcNeAt A s u (.ref l) true∧RcNeAt A s (.ref l) u true:=by
 cases w with
 | non=>cases r;exact⟨.none_tuple hl hu,.tuple_none hl hu,.none_tuple hl hu,.tuple_none hl hu,.none_tuple hl hu,.tuple_none hl hu⟩
 | bl b=>cases r;exact⟨.bool_tuple b hl hu,.tuple_bool b hl hu,.bool_tuple b hl hu,.tuple_bool b hl hu,.bool_tuple b hl hu,.tuple_bool b hl hu⟩
 | int i=>obtain⟨t,rfl⟩:=r;exact⟨.int_tuple i t hl hu,.tuple_int i t hl hu,.int_tuple i t hl hu,.tuple_int i t hl hu,.int_tuple i t hl hu,.tuple_int i t hl hu⟩
 | str i=>obtain⟨t,rfl⟩:=r;exact⟨.str_tuple i t hl hu,.tuple_str i t hl hu,.str_tuple i t hl hu,.tuple_str i t hl hu,.str_tuple i t hl hu,.tuple_str i t hl hu⟩
 | _=>exact absurd (show false=true from hf) YAC
theorem Zmj {A:Around}{l b:Addr}{ps qs:List Value}{xs ys:List DT}(hl:s.heap.IsList l ps.toArray)(hb:s.heap.IsList b qs.toArray)(n1:ps.length=xs.length)(n2:qs.length=ys.length)(hu:A.units<cLine)
  (he:∀j (h1:j<ps.length) (h2:j<qs.length),EqAt A.in1 s ps[j] qs[j] (ZaS xs ys j)):RcAt A s (.ref l) (.ref b) (deqs xs ys)∧RcNeAt A s (.ref l) (.ref b) (!deqs xs ys):=by
 rw[ZfV]
 by_cases hz:ps.length=qs.length
 ·have hsz:ps.toArray.size=qs.toArray.size:=by rw[YAI,YAI];exact hz
  have e1:((List.range (min xs.length ys.length)).all (ZaS xs ys)&&xs.length == ys.length)=(List.range ps.toArray.size).all (ZaS xs ys):=by
   have:xs.length=ys.length:=by omega
   rw[YAI,n1,←this,Nat.min_self]
   simp
  rw[e1]
  exact⟨RcAt.lists hl hb hsz hu fun j j1 j2=>by simpa using he j (by simpa using j1) (by simpa using j2),RcNeAt.lists hl hb hsz hu fun j j1 j2=>by simpa using he j (by simpa using j1) (by simpa using j2)⟩
 ·have e1:((List.range (min xs.length ys.length)).all (ZaS xs ys)&&xs.length == ys.length)=false:=by
   have:xs.length≠ys.length:=by omega
   simp[this]
  rw[e1]
  have hsz:(ps.toArray.size != qs.toArray.size)=true:=by rw[YAI,YAI];simpa using hz
  exact⟨RcAt.lists_lengths hl hb hsz hu,RcNeAt.lists_lengths hl hb hsz hu⟩
theorem Zmi {A:Around}{l b:Addr}{ps qs:List Value}{xs ys:List DT}(hl:s.heap.IsTuple l ps.toArray)(hb:s.heap.IsTuple b qs.toArray)(n1:ps.length=xs.length)(n2:qs.length=ys.length)(hu:A.units<cLine)
  (he:∀j (h1:j<ps.length) (h2:j<qs.length),EqAt A.in1 s ps[j] qs[j] (ZaS xs ys j)):RcAt A s (.ref l) (.ref b) (deqs xs ys)∧RcNeAt A s (.ref l) (.ref b) (!deqs xs ys):=by
 have e1:deqs xs ys=((List.range (min ps.toArray.size qs.toArray.size)).all (ZaS xs ys)&&ps.toArray.size == qs.toArray.size):=by
  rw[ZfV,YAI,YAI,n1,n2]
 rw[e1]
 exact⟨RcAt.tuples hl hb hu fun j j1 j2=>by simpa using he j (by simpa using j1) (by simpa using j2),RcNeAt.tuples hl hb hu fun j j1 j2=>by simpa using he j (by simpa using j1) (by simpa using j2)⟩
mutual
theorem Zny (I:Inv X pins σ H s):∀(d e:DT) (A:Around) (x y:V) (u v:Value),DatOk X.K H d x→DatOk X.K H e y→RelV x u→RelV y v→A.units+dep d<cLine→EqAt A s u v (deq d e)
 | .f w,.f w',A,x,y,u,v,h1,h2,ru,rv,hu=>by
  unfold DatOk at h1 h2
  obtain⟨rfl,f1⟩:=h1
  obtain⟨rfl,f2⟩:=h2
  unfold deq
  exact Zkh ru rv f1 f2
 | .f w,.l ys,A,x,y,u,v,h1,h2,ru,rv,hu=>by
  unfold DatOk at h1 h2
  obtain⟨rfl,f1⟩:=h1
  obtain⟨a,vs,rfl,q,_⟩:=h2
  cases rv
  obtain⟨its,_,p,_⟩:=I.list q
  unfold deq
  exact(Zev f1 ru p.isList (by unfold dep at hu;omega)).1
 | .f w,.t ys,A,x,y,u,v,h1,h2,ru,rv,hu=>by
  unfold DatOk at h1 h2
  obtain⟨rfl,f1⟩:=h1
  obtain⟨a,vs,rfl,q,_⟩:=h2
  cases rv
  obtain⟨its,_,p,_⟩:=I.tuple q
  unfold deq
  exact(Zeu f1 ru (show s.heap.IsTuple a its.toArray from p) (by unfold dep at hu;omega)).1
 | .l xs,.f w,A,x,y,u,v,h1,h2,ru,rv,hu=>by
  unfold DatOk at h1 h2
  obtain⟨rfl,f1⟩:=h2
  obtain⟨a,vs,rfl,q,_⟩:=h1
  cases ru
  obtain⟨its,_,p,_⟩:=I.list q
  unfold deq
  exact(Zev f1 rv p.isList (by omega)).2.1
 | .t xs,.f w,A,x,y,u,v,h1,h2,ru,rv,hu=>by
  unfold DatOk at h1 h2
  obtain⟨rfl,f1⟩:=h2
  obtain⟨a,vs,rfl,q,_⟩:=h1
  cases ru
  obtain⟨its,_,p,_⟩:=I.tuple q
  unfold deq
  exact(Zeu f1 rv (show s.heap.IsTuple a its.toArray from p) (by omega)).2.1
 | .l xs,.t ys,A,x,y,u,v,h1,h2,ru,rv,hu=>by
  unfold DatOk at h1 h2
  obtain⟨a,vs,rfl,q,_⟩:=h1
  obtain⟨b,ws,rfl,q',_⟩:=h2
  cases ru
  cases rv
  obtain⟨its,_,p,_⟩:=I.list q
  obtain⟨its',_,p',_⟩:=I.tuple q'
  unfold deq
  exact EqAt.list_tuple p.isList (show s.heap.IsTuple b its'.toArray from p') (by omega)
 | .t xs,.l ys,A,x,y,u,v,h1,h2,ru,rv,hu=>by
  unfold DatOk at h1 h2
  obtain⟨a,vs,rfl,q,_⟩:=h1
  obtain⟨b,ws,rfl,q',_⟩:=h2
  cases ru
  cases rv
  obtain⟨its,_,p,_⟩:=I.tuple q
  obtain⟨its',_,p',_⟩:=I.list q'
  unfold deq
  exact EqAt.tuple_list (show s.heap.IsTuple a its.toArray from p) p'.isList (by omega)
 | .l xs,.l ys,A,x,y,u,v,h1,h2,ru,rv,hu=>by
  by_cases hxy:x=y
  ·subst hxy
   rw[DatOk.uniq (K:=X.K) I (.l xs) (.l ys) x h1 h2]
   unfold DatOk at h1
   obtain⟨a,vs,rfl,_⟩:=h1
   cases ru
   cases rv
   exact EqAt.same _
  ·unfold DatOk at h1 h2
   obtain⟨a,vs,rfl,q,d1⟩:=h1
   obtain⟨b,ws,rfl,q',d2⟩:=h2
   cases ru
   cases rv
   obtain⟨its,r,p,_⟩:=I.list q
   obtain⟨its',r',p',_⟩:=I.list q'
   unfold deq
   unfold dep at hu
   refine EqAt.of_refs (fun e=>hxy (by rw[e])) (Zmj p.isList p'.isList (by rw[←r.length,d1.length]) (by rw[←r'.length,d2.length]) (by omega) fun j j1 j2=>?_).1
   exact ZdB I xs ys A.in1 vs ws its its' d1 d2 r r' (by show A.units+1+_<_;omega) j j1 j2
 | .t xs,.t ys,A,x,y,u,v,h1,h2,ru,rv,hu=>by
  by_cases hxy:x=y
  ·subst hxy
   rw[DatOk.uniq (K:=X.K) I (.t xs) (.t ys) x h1 h2]
   unfold DatOk at h1
   obtain⟨a,vs,rfl,_⟩:=h1
   cases ru
   cases rv
   exact EqAt.same _
  ·unfold DatOk at h1 h2
   obtain⟨a,vs,rfl,q,d1⟩:=h1
   obtain⟨b,ws,rfl,q',d2⟩:=h2
   cases ru
   cases rv
   obtain⟨its,r,p,_⟩:=I.tuple q
   obtain⟨its',r',p',_⟩:=I.tuple q'
   unfold deq
   unfold dep at hu
   refine EqAt.of_refs (fun e=>hxy (by rw[e])) (Zmi (show s.heap.IsTuple a its.toArray from p) (show s.heap.IsTuple b its'.toArray from p') (by rw[←r.length,d1.length]) (by rw[←r'.length,d2.length]) (by omega) fun j j1 j2=>?_).1
   exact ZdB I xs ys A.in1 vs ws its its' d1 d2 r r' (by show A.units+1+_<_;omega) j j1 j2
theorem ZdB (I:Inv X pins σ H s):∀(xs ys:List DT) (A:Around) (vs ws:List V) (ps qs:List Value),DatsOk X.K H xs vs→DatsOk X.K H ys ws→Vals vs ps→Vals ws qs→A.units+deps xs<cLine →
  ∀(j:Nat) (h1:j<ps.length) (h2:j<qs.length),EqAt A s ps[j] qs[j] (ZaS xs ys j)
 | [],ys,A,vs,ws,ps,qs,d1,d2,r1,r2,hu,j,h1,h2=>by
  unfold DatsOk at d1
  subst d1
  cases r1
  exact absurd h1 (Nat.not_lt_zero _)
 | x::xs,[],A,vs,ws,ps,qs,d1,d2,r1,r2,hu,j,h1,h2=>by
  unfold DatsOk at d2
  subst d2
  cases r2
  exact absurd h2 (Nat.not_lt_zero _)
 | x::xs,y::ys,A,vs,ws,ps,qs,d1,d2,r1,r2,hu,j,h1,h2=>by
  unfold DatsOk at d1 d2
  obtain⟨v,vr,rfl,a1,a2⟩:=d1
  obtain⟨w,wr,rfl,b1,b2⟩:=d2
  unfold deps at hu
  cases r1 with
  | cons ru rus=>
   cases r2 with
   | cons rv rvs=>
    cases j with
    | zero=>
     have:=Zny I x y A v w _ _ a1 b1 ru rv (by omega)
     simpa [ZaS] using this
    | succ j=>
     have:=ZdB I xs ys A vr wr _ _ a2 b2 rus rvs (by omega) j (Nat.lt_of_succ_lt_succ h1) (Nat.lt_of_succ_lt_succ h2)
     simpa [ZaS] using this
end
theorem Zmh (I:Inv X pins σ H s){d e:DT}{A:Around}{x y:V}{u v:Value}(h1:DatOk X.K H d x)(h2:DatOk X.K H e y)(ru:RelV x u)(rv:RelV y v)(hu:A.units+dep d<cLine)(hn:¬(Zbb x=true∧Zbb y=true)):
  RcAt A s u v (deq d e)∧RcNeAt A s u v (!deq d e):=by
 cases d with
 | f w=>
  unfold DatOk at h1
  obtain⟨rfl,f1⟩:=h1
  cases e with
  | f w'=>
   unfold DatOk at h2
   obtain⟨rfl,f2⟩:=h2
   exact absurd ⟨f1,f2⟩ hn
  | l ys=>
   unfold DatOk at h2
   obtain⟨a,vs,rfl,q,_⟩:=h2
   cases rv
   obtain⟨its,_,p,_⟩:=I.list q
   have z:=Zev (A:=A) f1 ru p.isList (by omega)
   unfold deq
   exact⟨z.2.2.1,z.2.2.2.2.1⟩
  | t ys=>
   unfold DatOk at h2
   obtain⟨a,vs,rfl,q,_⟩:=h2
   cases rv
   obtain⟨its,_,p,_⟩:=I.tuple q
   have z:=Zeu (A:=A) f1 ru (show s.heap.IsTuple a its.toArray from p) (by omega)
   unfold deq
   exact⟨z.2.2.1,z.2.2.2.2.1⟩
 | l xs=>
  unfold DatOk at h1
  obtain⟨a,vs,rfl,q,d1⟩:=h1
  cases ru
  obtain⟨its,r,p,_⟩:=I.list q
  cases e with
  | f w=>
   unfold DatOk at h2
   obtain⟨rfl,f1⟩:=h2
   have z:=Zev (A:=A) f1 rv p.isList (by omega)
   unfold deq
   exact⟨z.2.2.2.1,z.2.2.2.2.2⟩
  | l ys=>
   unfold DatOk at h2
   obtain⟨b,ws,rfl,q',d2⟩:=h2
   cases rv
   obtain⟨its',r',p',_⟩:=I.list q'
   unfold deq
   unfold dep at hu
   exact Zmj p.isList p'.isList (by rw[←r.length,d1.length]) (by rw[←r'.length,d2.length]) (by omega) fun j j1 j2=>ZdB I xs ys A.in1 vs ws its its' d1 d2 r r' (by show A.units+1+_<_;omega) j j1 j2
  | t ys=>
   unfold DatOk at h2
   obtain⟨b,ws,rfl,q',d2⟩:=h2
   cases rv
   obtain⟨its',r',p',_⟩:=I.tuple q'
   unfold deq
   exact⟨RcAt.list_tuple p.isList (show s.heap.IsTuple b its'.toArray from p') (by omega),RcNeAt.list_tuple p.isList (show s.heap.IsTuple b its'.toArray from p') (by omega)⟩
 | t xs=>
  unfold DatOk at h1
  obtain⟨a,vs,rfl,q,d1⟩:=h1
  cases ru
  obtain⟨its,r,p,_⟩:=I.tuple q
  cases e with
  | f w=>
   unfold DatOk at h2
   obtain⟨rfl,f1⟩:=h2
   have z:=Zeu (A:=A) f1 rv (show s.heap.IsTuple a its.toArray from p) (by omega)
   unfold deq
   exact⟨z.2.2.2.1,z.2.2.2.2.2⟩
  | t ys=>
   unfold DatOk at h2
   obtain⟨b,ws,rfl,q',d2⟩:=h2
   cases rv
   obtain⟨its',r',p',_⟩:=I.tuple q'
   unfold deq
   unfold dep at hu
   exact Zmi (show s.heap.IsTuple a its.toArray from p) (show s.heap.IsTuple b its'.toArray from p') (by rw[←r.length,d1.length]) (by rw[←r'.length,d2.length]) (by omega) fun j j1 j2=>ZdB I xs ys A.in1 vs ws its its' d1 d2 r r' (by show A.units+1+_<_;omega) j j1 j2
  | l ys=>
   unfold DatOk at h2
   obtain⟨b,ws,rfl,q',d2⟩:=h2
   cases rv
   obtain⟨its',r',p',_⟩:=I.list q'
   unfold deq
   exact⟨RcAt.tuple_list (show s.heap.IsTuple a its.toArray from p) p'.isList (by omega),RcNeAt.tuple_list (show s.heap.IsTuple a its.toArray from p) p'.isList (by omega)⟩
end
def rEqD (K:PySem.W.Frag)(neg:Bool):R2:=fun x y H Q=>(scal x y=true∧Q (.bl (if neg then !decide (x=y) else decide (x=y))) H) ∨
 ∃d e,DatOk K H d x∧DatOk K H e y∧¬(Zbb x=true∧Zbb y=true)∧dep d≤60∧Q (.bl (if neg then !deq d e else deq d e)) H
theorem Zj5 {X:Cx}(hu:X.A.units+64<cLine):OpR X (compareOp .Eq) (rEqD X.K false):=by
 intro pins s σ H x y v u Q I rx ry h
 rcases h with⟨h1,q⟩|⟨d,e,h1,h2,hn,hd,q⟩
 ·exact Zo4 pins s σ H x y v u Q I rx ry ⟨h1,q⟩
 ·exact(Zmh I h1 h2 rx ry (by omega) hn).1 _ _ _ _ ⟨.bl _,H,I,rfl,q⟩
theorem Zj4 {X:Cx}(hu:X.A.units+64<cLine):OpR X (compareOp .NotEq) (rEqD X.K true):=by
 intro pins s σ H x y v u Q I rx ry h
 rcases h with⟨h1,q⟩|⟨d,e,h1,h2,hn,hd,q⟩
 ·exact Zo1 pins s σ H x y v u Q I rx ry ⟨h1,q⟩
 ·exact(Zmh I h1 h2 rx ry (by omega) hn).2 _ _ _ _ ⟨.bl _,H,I,rfl,q⟩
theorem DatOk.same {K:PySem.W.Frag}{H H':Hp}(hl:∀a xs,SqL K H a xs→SqL K H' a xs)(ht:∀a xs,SqT K H a xs→SqT K H' a xs):∀ {d:DT} {v:V},DatOk K H d v→DatOk K H' d v:=by
 have both:∀d:DT,(∀v,DatOk K H d v→DatOk K H' d v):=by
  intro d
  refine DT.rec (motive_1:=fun d=>∀v,DatOk K H d v→DatOk K H' d v) (motive_2:=fun ds=>∀vs,DatsOk K H ds vs→DatsOk K H' ds vs) ?_ ?_ ?_ ?_ ?_ d
  ·intro w v h;unfold DatOk at h ⊢;exact h
  ·intro xs ih v h
   unfold DatOk at h ⊢
   obtain⟨a,vs,e,q,r⟩:=h
   exact⟨a,vs,e,hl a vs q,ih vs r⟩
  ·intro xs ih v h
   unfold DatOk at h ⊢
   obtain⟨a,vs,e,q,r⟩:=h
   exact⟨a,vs,e,ht a vs q,ih vs r⟩
  ·intro vs h;unfold DatsOk at h ⊢;exact h
  ·intro x xs h1 h2 vs h
   unfold DatsOk at h ⊢
   obtain⟨v,r,e,a,b⟩:=h
   exact⟨v,r,e,h1 v a,h2 r b⟩
 exact fun {d v} h=>both d v h
theorem Same.seqT {K:PySem.W.Frag}{H H':Hp}{a:Addr}{xs:List V}(e:Same H H')(h:SqT K H a xs):SqT K H' a xs:=by
 rcases h with (h | ⟨o,h⟩) | h
 ·exact .inl (.inl (e _ _ h))
 ·exact .inl (.inr ⟨o,e _ _ h⟩)
 ·exact .inr h
theorem Same.dat {K:PySem.W.Frag}{H H':Hp}(e:Same H H'){d:DT}{v:V}(h:DatOk K H d v):DatOk K H' d v:=h.same (fun _ _ q=>e.seq q) (fun _ _ q=>e.seqT q)
theorem Zey {K:PySem.W.Frag}{H:Hp}:∀ {vs:List V},vs.all Zbb=true→DatsOk K H (vs.map DT.f) vs
 | [],_=>by unfold DatsOk;rfl
 | v::r,h=>by
  rw[List.all_cons,YAR]at h
  rw[YAf]
  unfold DatsOk
  exact⟨v,r,rfl,by unfold DatOk;exact⟨rfl,h.1⟩,Zey h.2⟩
theorem Zfo (vs:List V):deps (vs.map DT.f)=0:=by
 induction vs with
 | nil=>rfl
 | cons v r ih=>rw[YAf];unfold deps;rw[ih];rfl
theorem Zkf (a b:List Nat):eqV (tx a) (tx b)=decide (tx a=tx b):=by
 rw[ZcV]
 show ((⟨a.toArray⟩:Str) == ⟨b.toArray⟩)=_
 by_cases h:a=b
 ·subst h;simp
 ·rw[decide_eq_false h]
  exact beq_eq_false_iff_ne.mpr fun z=>h (ZdR.mp (congrArg V.str z))
theorem datL {K:PySem.W.Frag}{H:Hp}{a:Addr}{vs:List V}(h:SqL K H a vs)(hf:vs.all Zbb=true):DatOk K H (.l (vs.map DT.f)) (.ref a):=by
 unfold DatOk
 exact⟨a,vs,rfl,h,Zey hf⟩
theorem datT {K:PySem.W.Frag}{H:Hp}{a:Addr}{vs:List V}(h:SqT K H a vs)(hf:vs.all Zbb=true):DatOk K H (.t (vs.map DT.f)) (.ref a):=by
 unfold DatOk
 exact⟨a,vs,rfl,h,Zey hf⟩
theorem datF {K:PySem.W.Frag}{H:Hp}{v:V}(hf:Zbb v=true):DatOk K H (.f v) v:=by
 unfold DatOk
 exact⟨rfl,hf⟩
end L2
namespace L2
open PySem PySem.Spec PyProof.Rows
open PySem.W (Frag findIn specialIn typeIn mroIn clsIn InstAt Looks)
noncomputable def ZeF:List Value:=[.type "ValueError",.type "Exception",.type "BaseException",.type "object"]
noncomputable def Zj9:Value→Bool
 | .ref _=>true
 | _=>false
noncomputable def xmro (l:List Value):Bool:=l.dropWhile Zj9 == ZeF
theorem Zd8 {P:List Value→Prop}(h0:P ZeF)(h1:∀c r,P r→P (.ref c::r)):∀l:List Value,xmro l=true→P l
 | [],e=>by simp[xmro,ZeF]at e
 | v::r,e=>by
  cases hv:Zj9 v with
  | true=>
   cases v with
   | ref c=>
    refine h1 c r (Zd8 h0 h1 r ?_)
    unfold xmro at e ⊢
    rw[List.dropWhile_cons,YAO hv]at e
    exact e
   | _=>cases hv
  | false=>
   unfold xmro at e
   rw[List.dropWhile_cons,YAJ (by rw[hv];exact YAC)]at e
   rw[show (v::r)=ZeF by simpa using e]
   exact h0
theorem ZhJ (self:Value):refuseLoop self "__setattr__" ZeF=pure ():=by
 first | rfl | kernel_rfl
theorem Zi7 (self:Value){l:List Value}(e:xmro l=true):refuseLoop self "__setattr__" l=pure ():=
 Zd8 (P:=fun l=>refuseLoop self "__setattr__" l=pure ()) (ZhJ self) (fun c r h=>by rw[refuseLoop_ref];exact h) l e
theorem ZbZ {n:String}{b:Bool}(h:ZeF.contains (.type n)=b){l:List Value}(e:xmro l=true):l.contains (.type n)=b:=
 Zd8 (P:=fun l=>l.contains (.type n)=b) h (fun c r h=>by rw[YCB,h];rfl) l e
structure Xc (K:Frag)(C:Addr):Prop where
 ga:findIn K (.ref C) "__getattribute__"=some (some (.builtin "BaseException.__getattribute__"))
 gr:findIn K (.ref C) "__getattr__"=some none
 sa:findIn K (.ref C) "__setattr__"=some (some (.builtin "object.__setattr__"))
 hd:PySem.W.hasDictIn K C=true
 mr:(clsIn K C).any (fun cd=>xmro cd.mro)=true
theorem Zhp {l:List Value}(e:xmro l=true):l.isEmpty=false:=by
 cases l with
 | nil=>simp[xmro,ZeF]at e
 | cons _ _=>rfl
theorem Xc.base {K:Frag}{C:Addr}(c:Xc K C){n:String}{b:Bool}(h:ZeF.contains (.type n)=b):mroIn K C (.type n)=some b:=by
 obtain⟨cd,hc,hm⟩:=YCQ c.mr
 unfold PySem.W.mroIn
 rw[hc,YBy,YAJ (by rw[Zhp hm];exact YAC),ZbZ h hm]
noncomputable def xo (a C:Addr)(d:Option Addr):HO:=.ext fun h=>∃(o:Obj) (t:Addr),h.get? a=some o∧o.cls=.ref C∧o.dict=d∧o.data=.fields #[.ref t,.none,.none,.none,.bool false,.none]
noncomputable def xdO (d:Addr)(fs:List (Str×V)):HO:=.ext fun h=>fs.length≤1000∧∃mA,h.Ns1 d mA∧(∀f,RelO (fs.lookup f) (mA f))∧PySem.Within mA (fs.map (·.1))
inductive XAt (H:Hp) (e C:Addr):List (Str×V)→Prop where
 | bare:H e=some (xo e C none)→XAt H e C []
 | full {d:Addr} {fs:List (Str×V)}:H e=some (xo e C (some d))→H d=some (xdO d fs)→d≠e→XAt H e C fs
theorem ZlM {H:Hp}{a:Addr}{o:HO}(h:H a=some o):upd H a o=H:=by
 funext b
 unfold upd
 by_cases hb:b=a
 ·rw[YAO hb,hb,h]
 ·rw[YAJ hb]
theorem XAt.same {H H':Hp}{e C:Addr}{fs:List (Str×V)}(x:XAt H e C fs)(s:Same H H'):XAt H' e C fs:=by
 cases x with
 | bare h=>exact .bare (s _ _ h)
 | full h1 h2 h3=>exact .full (s _ _ h1) (s _ _ h2) h3
section
variable {X:Cx}{pins:List (Addr×Obj)}{σ:St}{H:Hp}{s:Shared}{e C:Addr}{fs:List (Str×V)}{f:Str}{v:V}{A:Around}{E:Value→Shared→Prop}
theorem ZcQ {d:Option Addr}(I:Inv X pins σ H s)(h:H e=some (xo e C d)):∃(o:Obj) (t:Addr),s.heap.get? e=some o∧o.cls=.ref C∧o.dict=d∧o.data=.fields #[.ref t,.none,.none,.none,.bool false,.none]:=(I.hok e _ h).1
theorem Zkq {P:Program}{w:World}{H:Hp}{h:Heap}{d:Option Addr}{o:Obj}{t:Addr}(h1:h.get? e=some o)(h2:o.cls=.ref C)(h3:o.dict=d)(h4:o.data=.fields #[.ref t,.none,.none,.none,.bool false,.none]):ObjOk P w H h e (xo e C d):=
 ⟨⟨o,t,h1,h2,h3,h4⟩,⟨o,h1⟩,fun a b ⟨o,t,q1,q⟩ k=>⟨o,t,k o q1,q⟩⟩
theorem Zhq {P:Program}{w:World}{H:Hp}{h:Heap}{d:Addr}{mA:Str→Option Value}(hz:fs.length≤1000)(h1:h.Ns1 d mA)(h2:∀f,RelO (fs.lookup f) (mA f))(h3:PySem.Within mA (fs.map (·.1))):ObjOk P w H h d (xdO d fs):=by
 obtain⟨o,es,ep,ho,r⟩:=id h1
 refine⟨⟨hz,mA,h1,h2,h3⟩,⟨o,ho⟩,fun a b ⟨hz,m,⟨o,es,ep,q,r⟩,z⟩ k=>⟨hz,m,⟨o,es,ep,k o q,r⟩,z⟩⟩
theorem XAt.inst (I:Inv X pins σ H s)(x:XAt H e C fs):∃(ox:Obj) (od:Option Obj),InstAt s.heap e ox C od∧∀name,∃r,(match od with | some o=>PySem.W.lookIn name o | none=>some none)=some r∧RelO (fs.lookup name) r:=by
 cases x with
 | bare h=>
  obtain⟨o,t,h1,h2,h3,h4⟩:=ZcQ I h
  exact⟨o,none,⟨h1,h2,by unfold PySem.W.notCls;rw[h4],by rw[h3];trivial⟩,fun name=>⟨none,rfl,by trivial⟩⟩
 | @full d _ h h' hne=>
  obtain⟨o,t,h1,h2,h3,h4⟩:=ZcQ I h
  obtain⟨⟨_,mA,hn,hr,_⟩,_⟩:=I.hok d _ h'
  obtain⟨od,hod,hl⟩:=Zds hn
  exact⟨o,some od,⟨h1,h2,by unfold PySem.W.notCls;rw[h4],by rw[h3];exact hod⟩,fun name=>⟨mA name,hl name,hr name⟩⟩
theorem Zfm:entryFor table "BaseException.__getattribute__"=some Builtin.«object.__getattribute__»:=F.entry_bexc_ga
theorem ZgM {K:Frag}{x:Addr}{ox:Obj}{od:Option Obj}{name:Str}{expr:Bool}{u:Value}{prog:Program}{w:World}{Q:Value→Shared→Prop}(KX:K.In s.heap)(I:InstAt s.heap x ox C od)(c:Xc K C)
  (hf:PySem.W.findObj K C od name=some (.value u)) (hh:PySem.W.handedIn u=true) (h:Q u { s with toks:=s.toks+1 }):wpAny (model prog w) A (getAttr (.ref x) name expr) Q E s:=by
 obtain⟨hp,g,d,t,os⟩:=s
 have L0:=I.type (M:=model prog w)
 have L1:=YBf (M:=model prog w) KX c.ga
 have L2:=YBf (M:=model prog w) KX c.gr
 have L3:=PySem.W.looks_find (M:=model prog w) KX I hf
 have L4:=YDN (M:=model prog w) KX (c.base (n:="BaseException") (b:=true) (by decide +kernel))
 have hx2:(Value.builtin "BaseException.__getattribute__" == Value.builtin "object.__getattribute__")=false:=by decide +kernel
 have slot:=F.excAttr_ValueError.ga
 unfold getAttr getAttrBy
 refine YAA (wpAny_mkText (YBU (YAA (L0.at (YAA (L1.at ?_))))))
 dsimp only
 rw[hx2,YCU,YAJ YAC]
 unfold getAttrByItsOwn hookBefore
 refine YAA ?_
 show wpAny _ _ (if onTheHeap (Value.ref C)=true then typeLookup (.ref C) "__getattr__" else pure none) _ _ _
 rw[YAO (show onTheHeap (Value.ref C)=true from rfl)]
 refine L2.at (YAA (YBz (YBU ?_)))
 unfold callGetattribute
 rw[show (expr&&onTheHeap (Value.builtin "BaseException.__getattribute__"))=false from YCU _,YAJ YAC]
 unfold boundAndCalled
 rw[slot.bind]
 refine YAA (YAD ?_)
 show wpAny _ _ (call (.builtin "BaseException.__getattribute__") [.ref x,.str name t]) _ _ _
 refine YBx (codeAny_call_builtin slot.plain Zfm ?_)
 refine @PySem.W.check_slot (model prog w) _ _ ⟨hp,g,d,t+1,os⟩ "BaseException.__getattribute__" "BaseException" "__getattribute__" (.ref x) [.str name t] [] _ (by decide +kernel) (by decide +kernel) (L0.andThen L4) (F.args_bexc_ga (.ref x) (.str name t)) ?_
 refine YAA (YAD (YAA (YAD (YAA (L0.at (YAA (L3.at (YAD ?_))))))))
 show wpAny _ _ (handedOut u) _ _ _
 rw[PySem.W.handedOut_of hh]
 exact YAD h
theorem xset {y:V}{u:Value}{Q:Unit→Shared→Prop}(I:Inv X pins σ H s)(x:XAt H e C fs)(c:Xc X.K C)(n:NoAttr X.K C f)(hz:fs.length<1000)(ry:RelV y u)
  (h:∀s' H',Inv X pins σ H' s'→XAt H' e C (putF f y fs)→(∀b o,H b=some o→b≠e→(∀d,H e=some (xo e C (some d))→b≠d)→H' b=some o) →
   (∃d,H' e=some (xo e C (some d))∧(H e=some (xo e C (some d))∨H d=none))→Q () s'):wpAny (model X.prog X.w) A (setAttr (.ref e) f u) Q E s:=by
 obtain⟨ox,od,J,hr⟩:=x.inst I
 obtain⟨cd,hc,hd'⟩:=YCQ c.hd
 obtain⟨cd',hc2,hm⟩:=YCQ c.mr
 rw[hc]at hc2;cases hc2
 refine PySem.W.set_plain I.kIn J c.sa ?_
 have SF:=PySem.F.store_object
 have hne:=Zhp hm
 have KX:X.K.In ({ s with toks:=s.toks+1 }:Shared).heap:=I.kIn
 have J1:InstAt ({ s with toks:=s.toks+1 }:Shared).heap e ox C od:=J
 have L1:Looks (model X.prog X.w) s.heap (mroOf (.ref C)) cd.mro:=(PySem.W.looks_clsIn I.kIn hc).andThen .now
 have sub:Looks (model X.prog X.w) s.heap (isInstance (.ref e) (.type "object")) true:=J.type.andThen (YDN I.kIn (c.base (n:="object") (b:=true) (by decide +kernel)))
 refine codeAny_call_builtin SF.slot.plain SF.entry (@PySem.W.check_slot (model X.prog X.w) _ _ { s with toks:=s.toks+1 } "object.__setattr__" "object" "__setattr__" (.ref e) [.str f s.toks,u] [] _ SF.kind SF.split sub (SF.args (.ref e) (.str f s.toks) u) ?_)
 rw[PySem.W.osa_eq,refuse_eq]
 refine YAA (YAA (Looks.here (s:={ s with toks:=s.toks+1 }) J.type (YAA (Looks.here (s:={ s with toks:=s.toks+1 }) L1 ?_))))
 rw[Zi7 _ hm]
 refine YAD (YAA (Looks.here (s:={ s with toks:=s.toks+1 }) J.type (YAA (Looks.here (s:={ s with toks:=s.toks+1 }) (YBf I.kIn n) (YAA (YAD ?_))))))
 dsimp only
 refine YAA (YAD (YAA (YAA ?_)))
 have LC:=PySem.W.looks_clsIn (M:=model X.prog X.w) I.kIn hc
 cases x with
 | bare hb=>
  obtain⟨o,t,h1,h2,h3,h4⟩:=ZcQ I hb
  obtain⟨oc,odi,oda,osl⟩:=o
  dsimp only at h2 h3 h4
  subst h2 h3 h4
  refine wpAny_loadPart h1 (YAA (Looks.here (s:={ s with toks:=s.toks+1 }) LC ?_))
  rw[hd']
  refine YAA (wpAny_alloc (YAA (wpAny_update (YAB _ h1) (YAD ?_))))
  dsimp only
  refine YAA (YAD (YAA ?_))
  have hlt:e<s.heap.objs.size:=YAH h1
  have hfr:=I.fresh
  have hed:s.heap.objs.size≠e:=YCu hlt
  have ee:(s.heap.push PySem.W.emptyDict).get? s.heap.objs.size=some PySem.W.emptyDict:=YAG s.heap rfl
  have e2:((s.heap.push PySem.W.emptyDict).update e fun o=>{ o with dict:=some s.heap.objs.size }).get? e=some ⟨.ref C,some s.heap.objs.size,.fields #[.ref t,.none,.none,.none,.bool false,.none],osl⟩:=YBP _ (YAB _ h1) rfl
  have e3:((s.heap.push PySem.W.emptyDict).update e fun o=>{ o with dict:=some s.heap.objs.size }).get? s.heap.objs.size=some PySem.W.emptyDict:=by
   rw[YBC _ _ (YAx hed)];exact ee
  have ns:((s.heap.push PySem.W.emptyDict).update e fun o=>{ o with dict:=some s.heap.objs.size }).Ns s.heap.objs.size (fun _=>none):=⟨PySem.W.emptyDict,#[],_,e3,rfl,(fun e he=>absurd he (by simp)),fun _=>rfl⟩
  have ns1:=Heap.Ns1.of_empty ns
  have I1:=I.laid (a:=s.heap.objs.size) (o:=xdO s.heap.objs.size []) (h':=s.heap.push PySem.W.emptyDict) (t':=s.toks+1) (fun b u q=>YAB _ q) (YAQ _)
   (Zhq (fs:=[]) (YAz _) (Heap.Ns1.of_empty (h:=s.heap.push PySem.W.emptyDict) ⟨PySem.W.emptyDict,#[],_,ee,rfl,(fun e he=>absurd he (by simp)),fun _=>rfl⟩) (fun _=>by trivial) (fun y hy=>absurd rfl hy))
  have I2:=I1.write (x:=e) (e:=e) (o:=xo e C (some s.heap.objs.size)) (h':=(s.heap.push PySem.W.emptyDict).update e fun o=>{ o with dict:=some s.heap.objs.size }) (t':=s.toks+1)
   (by rw[Zae (YAx hed),hb];exact trivial) (.inl rfl) (fun b u hbe q=>by rw[YBC _ _ (YAx hbe)];exact q) ⟨_,e2⟩ (Zkq e2 rfl rfl rfl)
  refine wpAny_nsSet1 (s:={ s with heap:=(s.heap.push PySem.W.emptyDict).update e fun o=>{ o with dict:=some s.heap.objs.size },toks:=s.toks+1 }) ns1 fun h' hn2 hs2=>?_
  have hw:PySem.Within (fun x=>if x=f then some u else none) [f]:=fun z hz=>by
   by_cases q:z=f
   ·rw[q];exact YAa
   ·exact absurd (YAJ q) hz
  obtain⟨oD,esD,epD,hoD,hdD,hcD⟩:=hn2.count hw
  refine YAA (wpAny_lookBehind hoD (by rw[hdD];exact pastItsLine_dict (YAP hcD (by rw[YAp,sizeLine_eq];decide))) ?_)
  refine YAD (h _ _ (I2.write (x:=s.heap.objs.size) (e:=s.heap.objs.size) (o:=xdO s.heap.objs.size [(f,y)]) (h':=h') (t':=s.toks+1+1) ?_ (.inl rfl) (fun b u' hb' q=>(hs2.2 b hb').trans q) ⟨oD,hoD⟩ (Zhq (by show 1≤1000;decide) hn2 ?_ hw)) ?_ ?_ ⟨_,(by rw[Zae (YAx hed),Zad]),.inr hfr⟩)
  ·rw[Zae hed,Zad];exact trivial
  ·intro g
   show RelO (List.lookup g [(f,y)]) (if g=f then some u else none)
   by_cases q:g=f
   ·rw[YAO q,q];simp[YBD];exact ry
   ·have hbq:(g == f)=false:=by simpa using q
    rw[YAJ q];simp[YBD,hbq];trivial
  ·refine .full (d:=s.heap.objs.size) (by rw[Zae (YAx hed),Zad]) ?_ hed
   rw[Zad];rfl
  ·intro b o' hb' hbe _
   have nb:b≠s.heap.objs.size:=Zak hb' hfr
   rw[Zae nb,Zae hbe,Zae nb]
   exact hb'
 | @full d _ hb hd2 hne2=>
  obtain⟨o,t,h1,h2,h3,h4⟩:=ZcQ I hb
  obtain⟨oc,odi,oda,osl⟩:=o
  dsimp only at h2 h3 h4
  subst h2 h3 h4
  obtain⟨⟨hz',mA,hn,hr',hw⟩,_⟩:=I.hok d _ hd2
  refine wpAny_loadPart h1 (YAA (Looks.here (s:={ s with toks:=s.toks+1 }) LC ?_))
  rw[hd']
  refine YAD ?_
  dsimp only
  refine YAA (YAD (YAA ?_))
  refine wpAny_nsSet1 (s:={ s with toks:=s.toks+1 }) hn fun h' hn2 hs2=>?_
  obtain⟨oD,esD,epD,hoD,hdD,hcD⟩:=hn2.count (PySem.Within.cons f u hw)
  refine YAA (wpAny_lookBehind hoD (by rw[hdD];exact pastItsLine_dict (YAP hcD (by rw[YAn,YAE,sizeLine_eq];omega))) ?_)
  refine YAD (h _ _ (I.write (x:=d) (e:=d) (o:=xdO d (putF f y fs)) (h':=h') (t':=s.toks+1+1) (by rw[hd2];exact trivial) (.inl rfl) (fun b u' hb' q=>(hs2.2 b hb').trans q) ⟨oD,hoD⟩ (Zhq ?_ hn2 ?_ ?_)) ?_ ?_ ⟨d,(by rw[Zae (YAx hne2)];exact hb),.inl hb⟩)
  ·have:=Zce f y fs;omega
  ·intro g
   show RelO ((putF f y fs).lookup g) (if g=f then some u else mA g)
   rw[Zar]
   by_cases q:g=f
   ·rw[YAO q,YAO q];exact ry
   ·rw[YAJ q,YAJ q];exact hr' g
  ·intro g hg
   by_cases q:g=f
   ·rw[q];exact(ZbW f y fs).1
   ·refine(ZbW f y fs).2 g (hw g fun z=>hg ?_)
    show (if g=f then some u else mA g)=none
    rw[YAJ q];exact z
  ·exact .full (d:=d) (by rw[Zae (YAx hne2)];exact hb) Zad hne2
  ·intro b o' hb' hbe hbd
   rw[Zae (hbd d hb)]
   exact hb'
end
noncomputable abbrev xraw (C t:Addr):Obj:={ cls:=.ref C,data:=.fields #[.ref t,.none,.none,.none,.bool false,.none] }
noncomputable abbrev tupO (vs:List Value):Obj:={ cls:=.type "tuple",data:=.seq vs.toArray }
structure Xm (K:Frag)(C:Addr):Prop where
 c:Xc K C
 ob:∃(nm q:Str) (N:Addr) (bs bm:List Value) (hdct:Bool) (sn:List Str) (sub:List Value) (ab:Bool) (col:Option Bool) (dd:Option Addr) (k0 k1 k2 k3 k5:Option Value),
  K.lookup C=some (excClassObj nm q C N bs bm hdct sn sub ab col dd k0 k1 k2 k3 k5 "ValueError.__new__")
 kp:PySem.W.keepIn K (.ref C)=true
section
variable {prog:Program}{w:World}{A:Around}{E:Value→Shared→Prop}{h:Heap}{g:Array GenState}{d:Drawn}{t:Nat}{os:OsState}{K:Frag}
variable {nm q:Str}{C N:Addr}{bs bm:List Value}{hdct:Bool}{sn:List Str}{sub:List Value}{ab:Bool}{col:Option Bool}{dd:Option Addr}{k0 k1 k2 k3 k5:Option Value}
theorem ZgL {M:Model} {rest:List Value} {Q:Unit→Shared→Prop} (hx:xmro (.ref C::bm)=true) (hC:h.get? C=some (excClassObj nm q C N bs bm hdct sn sub ab col dd k0 k1 k2 k3 k5 "ValueError.__new__"))
  (hq:Q () ⟨h,g,d,t,os⟩):wpAny M A (checkBuiltinCall "ValueError.__new__" ⟨.ref C::rest,[]⟩) Q E ⟨h,g,d,t,os⟩:=by
 have Fn:=YDH
 have hcB:=ZbZ (n:="ValueError") (b:=true) (by decide +kernel) hx
 have hstar:=Fn.noStar
 simp only[checkBuiltinCall,Fn.newKind,Fn.newSplit,Fn.newRow]
 repeat (first | refine YBT hC ?_ | (refine YCs hC ?_;rw[hcB]) | refine wpAny_staticBase_exc hC ?_ | refine wpAny_madeBy_exc hC ?_ | simp only[bne_self_eq_false,YCD,if_false] | wp_step)
 exact hq
theorem xnew {R:Result→Shared→Prop} {rest:List Value} (hx:xmro (.ref C::bm)=true) (hC:h.get? C=some (excClassObj nm q C N bs bm hdct sn sub ab col dd k0 k1 k2 k3 k5 "ValueError.__new__"))
  (hq:R (.ok (.ret (.ref (h.objs.size+1)))) ⟨(h.push (tupO rest)).push (xraw C h.objs.size),g,d,t,os⟩) (hrest:rest.length≤sizeLine):
  codeAny (model prog w) A (.builtin "ValueError.__new__" ⟨.ref C::rest,[]⟩) R ⟨h,g,d,t,os⟩:=by
 have Fn:=YDH
 have hends:=Fn.ends
 have hcB:=ZbZ (n:="ValueError") (b:=true) (by decide +kernel) hx
 have hcA:=ZbZ (n:="AttributeError") (b:=false) (by decide +kernel) hx
 have hcN:=ZbZ (n:="NameError") (b:=false) (by decide +kernel) hx
 refine codeAny_builtinAt Fn.entry ?_
 unfold Builtin.«BaseException.__new__»
 refine PySem.wpAt_bind ?_
 show PySem.wpAt _ _ _ (stack >>= _) _ _ _
 refine PySem.wpAt_bind (PySem.wpAt_stack fun p below=>PySem.wpAt_of_wpAny ?_)
 wp_walk
 refine PySem.wpAt_of_wpAny ?_
 rw[Fn.owner]
 repeat (first | with_reducible refine wpAny_madeHere_exc Fn.canon hC ?_ | with_reducible refine YBT hC ?_ | (with_reducible refine YCs hC ?_;first | rw[hcB] | rw[hcA] | rw[hcN]) | wp_step)
 show R _ _
 rw[YAs]
 exact hq
theorem ZlL {R:Result→Shared→Prop} {rest:List Value} {init:Value} (KX:K.In h) (hx:xmro (.ref C::bm)=true) (hC:h.get? C=some (excClassObj nm q C N bs bm hdct sn sub ab col dd k0 k1 k2 k3 k5 "ValueError.__new__"))
  (hi:Looks (model prog w) h (typeLookup (.ref C) "__init__") (some init)) (hb:∀self,Looks (model prog w) h (bindSpecial init self) (init,[self])) (hrest:rest.length≤sizeLine)
  (hq:codeAny (model prog w) (A.under (.builtin "type.__call__" ⟨.ref C::rest,[]⟩)) (.call init ⟨.ref (h.objs.size+1)::rest,[]⟩) (PySem.W.InitBack (h.objs.size+1) R) ⟨(h.push (tupO rest)).push (xraw C h.objs.size),g,d,t,os⟩):
  codeAny (model prog w) A (.call (.ref C) ⟨rest,[]⟩) R ⟨h,g,d,t,os⟩:=by
 have f1:=tc_lookup
 have f2:=tc_bind (.ref C)
 have hT:(⟨h,g,d,t,os⟩:Shared).TypeIs (.ref C) "type":=⟨_,hC,rfl⟩
 have Fn:=YDH
 refine codeAny_of_tree ?_
 show wpAny _ _ (callAny (.ref C) _) _ _ _
 repeat (any_goals (first | assumption | with_reducible refine YBT hC ?_ | wp_step))
 refine⟨rfl,?_⟩
 refine codeAny_call_builtin_at (Code.quiet_builtin _ (by decide +kernel)) entry_typeCall (wpAny_check_type_call_sub hC ?_)
 repeat (first | with_reducible refine YBT hC ?_ | with_reducible refine wpAny_madeBy_exc hC ?_ | wp_step)
 refine codeAny_call_builtin_code (Code.quiet_builtin _ Fn.quiet) (ZgL hx hC ?_)
 refine xnew hx hC ?_ hrest
 show wpAny _ _ _ _ _ _
 have k:∀b o,h.get? b=some o→((h.push (tupO rest)).push (xraw C h.objs.size)).get? b=some o:=fun b o e=>YAB _ (YAB _ e)
 have hC1:=k _ _ hC
 have hget:((h.push (tupO rest)).push (xraw C h.objs.size)).get? (h.objs.size+1)=some { cls:=.ref C,data:=.fields #[.ref h.objs.size,.none,.none,.none,.bool false,.none] }:=by heap_get
 have hcC:(Value.ref C::bm).contains (.ref C)=true:=by simp
 have i1:=hi.keeps k
 have b1:=(hb (.ref (h.objs.size+1))).keeps k
 have t1:Looks (model prog w) ((h.push (tupO rest)).push (xraw C h.objs.size)) (typeOf (.ref (h.objs.size+1))) (.ref C):=(Looks.ld hget).andThen .now
 unfold isInstance
 repeat (first | with_reducible refine YBT hget ?_ | (with_reducible refine YCs hC1 ?_;rw[hcC]) | wp_step)
 refine YCs hC1 ?_
 rw[hcC]
 repeat (first | with_reducible refine YBT hget ?_ | wp_step)
 show wpAny _ _ (typeLookup (.ref C) _) _ _ _
 refine i1.at (YBU (YAA (b1.at ?_)))
 refine YAA (YBx ?_)
 refine codeAny_mono hq fun r s' z=>?_
 rcases r with e | (v | _ | _ | _)<;>first | exact z | exact z.elim | skip
 obtain⟨rfl,z⟩:=z
 exact YAD (YAD z)
end
section
variable {X:Cx}{pins:List (Addr×Obj)}{σ:St}{H:Hp}{s:Shared}{C:Addr}{us:List Value}{vs:List V}{Q:VK}
theorem Inv.xmade (I:Inv X pins σ H s):Inv X pins σ (upd H (s.heap.objs.size+1) (xo (s.heap.objs.size+1) C none)) { s with heap:=(s.heap.push (tupO us)).push (xraw C s.heap.objs.size) }:=by
 have I1:Inv X pins σ H { s with heap:=s.heap.push (tupO us) }:=I.kept (t':=s.toks) fun b o e=>YAB _ e
 have e2:((s.heap.push (tupO us)).push (xraw C s.heap.objs.size)).get? (s.heap.objs.size+1)=some (xraw C s.heap.objs.size):=by
  have:=YAG (s.heap.push (tupO us)) (o:=xraw C s.heap.objs.size) rfl
  rwa [YAs]at this
 exact I1.laid (a:=s.heap.objs.size+1) (t':=s.toks) (fun b u q=>YAB _ q) (YCO (YAs _ _)) (Zkq e2 rfl rfl rfl)
theorem ZeD {e:Addr}{d:Option Addr}{R:Result→Shared→Prop}(I:Inv X pins σ H s)(m:Xm X.K C)(hx:H e=some (xo e C d))(hz:us.length≤sizeLine)(A:Around)
    (h:∀s',Inv X pins σ H s'→R (.ok (.ret .none)) s'):codeAny (model X.prog X.w) A (.call (.builtin "ValueError.__init__") ⟨.ref e::us,[]⟩) R s:=by
  have Fn:=YDH
  have c:=m.c
  obtain⟨nm,qn,N,bs,bm,hdct,sn,sub,ab,col,dd,k0,k1,k2,k3,k5,lC⟩:=m.ob
  have hC:=I.kIn _ _ lC
  obtain⟨o,t,h1,h2,h3,h4⟩:=ZcQ I hx
  obtain⟨oc,od,oda,osl⟩:=o
  dsimp only at h2 h3 h4
  subst h2 h3 h4
  have L:Looks (model X.prog X.w) s.heap (isInstance (.ref e) (.type "ValueError")) true:=((Looks.ld h1).andThen .now).andThen (YDN I.kIn (c.base (n:="ValueError") (b:=true) (by decide +kernel)))
  obtain⟨hp,g,dr,tk,os⟩:=s
  refine codeAny_call_builtin Fn.init.plain Fn.initEntry ?_
  have hshort:=Fn.noStar
  simp only[checkBuiltinCall,Fn.initKind,Fn.initSplit,Fn.initRow]
  refine YAA (L.at ?_)
  simp only[Bool.not_true,YCD,if_false]
  have fin:wpAny (model X.prog X.w) A.in1 (Builtin.«BaseException.__init__» ⟨.ref e::us,[]⟩) (fun fin s'=>match fin with | .done f=>R (.ok f) s' | .again c'=>c'.quiet=true∧codeAny (model X.prog X.w) A c' R s') (fun e s'=>R (.error e) s') ⟨hp,g,dr,tk,os⟩:=by
    have hlt:e<hp.objs.size:=YAH h1
    wp_walk
    refine h _ ?_
    have I1:Inv X pins σ H { (⟨hp,g,dr,tk,os⟩:Shared) with heap:=hp.push (tupO us) }:=I.kept (t':=tk) fun b o e=>YAB _ e
    have e2:=YBP (Obj.mapFields (·.setIfInBounds 0 (Value.ref hp.objs.size))) (YAB (h:=hp) (tupO us) h1) rfl
    have I2:=I1.write (x:=e) (e:=e) (o:=xo e C od) (h':=(hp.push (tupO us)).update e (Obj.mapFields (·.setIfInBounds 0 (Value.ref hp.objs.size)))) (t':=tk) (by rw[hx];exact trivial) (.inl rfl)
      (fun b u hb q=>by rw[YBC _ _ (YAx hb)];exact q) ⟨_,e2⟩ (Zkq e2 rfl rfl rfl)
    rw[ZlM hx]at I2
    exact I2
  repeat (first | with_reducible refine YBT hC ?_ | (with_reducible refine wpAny_load hC ?_) | with_reducible refine YBT h1 ?_ | wp_step)
  first
    | (refine wpAny_onRaise ?_
       rw[show ∀(a b:String) (n:Nat),Bind.check ⟨.positional,"*","ValueError",.self,[⟨"args",.varPos,false⟩]⟩ a b n (List.map (fun x=>x.fst) ({ pos:=Value.ref e::us }:Args).kw)=pure () from fun a b n=>check_star_args _ _ _ _ _ _]
       exact YAD fin)
    | skip
end
structure Xi (K:Frag)(C:Addr):Prop where
 c:Xc K C
 ha:findIn K (.ref C) "__class__"=some (some (.builtin "object.__class__"))
 hn:specialIn K (.builtin "object.__class__") "__get__"=some (some (.builtin "getset_descriptor.__get__"))
 htk:PySem.W.takesIn K (.builtin "object.__class__")=some true
section
variable {K:Frag}{x C:Addr}{ox:Obj}{od:Option Obj}{prog:Program}{w:World}{A:Around}{E:Value→Shared→Prop}{s:Shared}
theorem ZlK {Q:Option Value→Shared→Prop}(i:Xi K C)(KX:K.In s.heap)(I:InstAt s.heap x ox C od)(h:Q (some (.ref C)) { s with toks:=s.toks+1 }):wpAny (model prog w) A (getAttr? (.ref x) "__class__") Q E s:=by
 have c:=i.c
 have hf:PySem.W.findObj K C od "__class__"=some (.bind (.builtin "getset_descriptor.__get__") (.builtin "object.__class__")):=by
  obtain⟨cd,hc,_⟩:=YCQ c.hd
  unfold PySem.W.findObj
  rw[hc,i.ha]
  simp only[YBy,i.hn,i.htk]
 obtain⟨hp,g,d,t,os⟩:=s
 have L0:=I.type (M:=model prog w)
 have L1:=YBf (M:=model prog w) KX c.ga
 have L2:=YBf (M:=model prog w) KX c.gr
 have L3:=PySem.W.looks_find (M:=model prog w) KX I hf
 have L4:=YDN (M:=model prog w) KX (c.base (n:="BaseException") (b:=true) (by decide +kernel))
 have hm:=c.base (n:="object") (b:=true) (by decide +kernel)
 have hx2:(Value.builtin "BaseException.__getattribute__" == Value.builtin "object.__getattribute__")=false:=by decide +kernel
 have slot:=F.excAttr_ValueError.ga
 unfold getAttr? getAttrBy?
 refine YAA (wpAny_mkText (YAA (YBz ?_)))
 unfold getAttrBy
 refine YBU (YAA (L0.at (YAA (L1.at ?_))))
 dsimp only
 rw[hx2,YCU,YAJ YAC]
 unfold getAttrByItsOwn hookBefore
 refine YAA ?_
 show wpAny _ _ (if onTheHeap (Value.ref C)=true then typeLookup (.ref C) "__getattr__" else pure none) _ _ _
 rw[YAO (show onTheHeap (Value.ref C)=true from rfl)]
 refine L2.at (YAA (YBz (YBU ?_)))
 unfold callGetattribute
 rw[show (false&&onTheHeap (Value.builtin "BaseException.__getattribute__"))=false from rfl,YAJ YAC]
 unfold boundAndCalled
 rw[slot.bind]
 refine YAA (YAD ?_)
 show wpAny _ _ (call (.builtin "BaseException.__getattribute__") [.ref x,.str "__class__" t]) _ _ _
 refine YBx (codeAny_call_builtin slot.plain Zfm ?_)
 refine @PySem.W.check_slot (model prog w) _ _ ⟨hp,g,d,t+1,os⟩ "BaseException.__getattribute__" "BaseException" "__getattribute__" (.ref x) [.str "__class__" t] [] _ (by decide +kernel) (by decide +kernel) (L0.andThen L4) (F.args_bexc_ga (.ref x) (.str "__class__" t)) ?_
 refine YAA (YAD (YAA (YAD (YAA (L0.at (YAA (L3.at ?_)))))))
 show wpAny _ _ (holding [.builtin "object.__class__"] (call (.builtin "getset_descriptor.__get__") [.builtin "object.__class__",.ref x,.ref C]) >>= ret) _ _ _
 refine YAA (YBU (YBx (PySem.W.class_get (s:=⟨hp,g,d,t+1,os⟩) (ox:=ox) (od:=od) KX I hm (YAD ?_))))
 exact PySem.W.handed_on rfl (YAD h)
theorem Zgx (i:Xi K C):PySem.W.KitX K (.ref x) (.ref C) (fun h=>InstAt h x ox C od) where
 ty:=fun _ _ _ I=>I.type
 it:=fun _ _ KX _=>by
  obtain⟨cd,hc,_⟩:=YCQ i.c.hd
  unfold PySem.W.clsIn at hc
  split at hc
  ·rename_i ho
   intro A' Q' E' s' k q
   unfold isType loadHead
   exact YAA (wpAny_loadPart (k _ _ (KX _ _ ho)) (YAD q))
  ·cases hc
 ne:=fun h tp dd its n sl KX htp=>by
  obtain⟨cd,hc,_⟩:=YCQ i.c.hd
  refine YCN.mpr fun q=>?_
  have e:C=tp:=Value.ref.inj (beq_iff_eq.mp q)
  subst e
  unfold PySem.W.clsIn at hc
  split at hc
  ·rename_i ho
   have z:=(KX _ _ ho).symm.trans htp
   cases z
  ·cases hc
 ca:=fun KX I k=>ZlK i KX I k
end
inductive TyX (K:Frag) (H:Hp):V→Value→Prop where
 | pl {x:V} {t:Value} (h:TyOf K H x t):TyX K H x t
 | seqL {a:Addr} {xs:List V} (h:SqL K H a xs):TyX K H (.ref a) (.type "list")
 | seqT {a:Addr} {xs:List V} (h:SqT K H a xs):TyX K H (.ref a) (.type "tuple")
 | exc {e C:Addr} {fs:List (Str×V)} (x:XAt H e C fs) (i:Xi K C):TyX K H (.ref e) (.ref C)
noncomputable def clsV:V→Option Value
 | .ref a=>some (.ref a)
 | .ty n=>some (.type n)
 | _=>none
theorem Zf2 {X:Cx}:ZcD X (.builtin "isinstance") (fun xs H Q=>∃x c t k b,xs=[x,c]∧clsV c=some k∧TyX X.K H x t∧PySem.W.kitOne X.K t k=some b∧Q (.bl b) H):=by
 rintro pins s σ H xs us Q I r ⟨x,c,t,k,b,rfl,hk,ty,e,q⟩
 obtain⟨u,v,rfl,ru,rv⟩:=r.two
 have hv:v=k:=by
  cases c with
  | ref a=>cases hk;exact rv
  | ty n=>cases hk;exact rv
  | _=>cases hk
 subst hv
 cases ty with
 | pl ty=>exact Zio I ru ty e fun tk=>⟨.bl b,H,I.tok _,rfl,q⟩
 | seqL h=>
  cases ru
  obtain⟨its,_,⟨o,n,ho,hc,_⟩,_⟩:=I.list h
  exact YBG YCf I.kIn ⟨o,ho,hc⟩ e (fun z=>nomatch z) fun tk=>⟨.bl b,H,I.tok _,rfl,q⟩
 | seqT h=>
  cases ru
  obtain⟨its,_,⟨o,ho,hc,_⟩,_⟩:=I.tuple h
  exact YBG YDU I.kIn ⟨o,ho,hc⟩ e (fun z=>nomatch z) fun tk=>⟨.bl b,H,I.tok _,rfl,q⟩
 | exc x i=>
  cases ru
  obtain⟨ox,od,J,_⟩:=x.inst I
  exact YBG (Zgx i) I.kIn J e (fun z=>nomatch z) fun tk=>⟨.bl b,H,I.tok _,rfl,q⟩
def Zmc (K:Frag)(ta tv:TE)(f:Str):TS:=fun D σ H=>tv σ H fun y H1=>ta σ H1 fun x H2=>∃e C fs,x=.ref e∧XAt H2 e C fs∧Xc K C∧NoAttr K C f∧fs.length<1000 ∧
 ∀H',XAt H' e C (putF f y fs)→(∀b o,H2 b=some o→b≠e→(∀d,H2 e=some (xo e C (some d))→b≠d)→H' b=some o)→(∃d,H' e=some (xo e C (some d))∧(H2 e=some (xo e C (some d))∨H2 d=none))→D.nx σ H'
def Zhy (K:Frag)(C:Addr)(t:TA):TE:=fun σ H Q=>t σ H fun vs H1=>vs.length≤1000∧∀e,H1 e=none→Q (.ref e) (upd H1 e (xo e C none))
def ZjO (C:Addr)(sp:Sp)(E:XK)(t:TA):TE:=fun σ H Q=>t σ H fun vs H1=>vs.length≤1000∧∀e,H1 e=none→sp (.ref e::vs) (upd H1 e (xo e C none)) (fun v H2=>v=.non∧Q (.ref e) H2) E
section
variable {X:Cx}{o e value:Expr}{es:List Expr}{f x:Str}{p pos pos':Pos}{ta tv:TE}{t:TA}{C fI:Addr}
theorem ZkQ (ha:PE X o ta)(hv:PE X value tv)(hs:swapsWith value (some (.Attribute o f pos')) pos.line X.env=pure false):PS X (.Assign [.Attribute o f pos'] value pos) (Zmc X.K ta tv f):=by
 intro pins s σ H D I h
 refine plainObj_wpAny_Assign_Attribute (thn (hv pins s σ H _ I h) fun u s1 ⟨y,H1,I1,ry,q⟩=>thn (ha pins s1 σ H1 _ I1 q) fun ov s2 ⟨x,H2,I2,rx,a,C,fs,ex,xa,c,n,l,q2⟩=>?_) hs
 subst ex
 obtain rfl:ov=Value.ref a:=rx
 exact xset I2 xa c n l ry fun s3 H3 I3 x3 k3 d3=>⟨σ,H3,I3,q2 H3 x3 k3 d3⟩
theorem Xm.parts {K:Frag}{C:Addr}(m:Xm K C):∃(nm q:Str) (N:Addr) (bs bm:List Value) (hdct:Bool) (sn:List Str) (sub:List Value) (ab:Bool) (col:Option Bool) (dd:Option Addr) (k0 k1 k2 k3 k5:Option Value),
  K.lookup C=some (excClassObj nm q C N bs bm hdct sn sub ab col dd k0 k1 k2 k3 k5 "ValueError.__new__")∧xmro (.ref C::bm)=true:=by
 obtain⟨nm,qn,N,bs,bm,hdct,sn,sub,ab,col,dd,k0,k1,k2,k3,k5,lC⟩:=m.ob
 refine⟨nm,qn,N,bs,bm,hdct,sn,sub,ab,col,dd,k0,k1,k2,k3,k5,lC,?_⟩
 have hm:=m.c.mr
 unfold PySem.W.clsIn at hm
 rw[lC]at hm
 exact hm
theorem ZgX {pins:List (Addr×Obj)} {σ:St} {H:Hp} {s:Shared} {Q:VK} {us:List Value} (m:Xm X.K C) (hi:findIn X.K (.ref C) "__init__"=some (some (.builtin "ValueError.__init__"))) (I:Inv X pins σ H s) (hz:us.length≤1000)
  (h:∀e,H e=none→Q (.ref e) (upd H e (xo e C none))):wpAny (model X.prog X.w) X.A (call (.ref C) us) (EP X pins σ Q) X.xe s:=by
 obtain⟨nm,qn,N,bs,bm,hdct,sn,sub,ab,col,dd,k0,k1,k2,k3,k5,lC,hx⟩:=m.parts
 have I2:=Inv.xmade (C:=C) (us:=us) I
 have hq:=h (s.heap.objs.size+1) (I.hok.fresh (YCc _))
 have hz':us.length≤sizeLine:=YAP hz (by rw[sizeLine_eq];decide)
 have KX:=I.kIn
 have hC:=KX _ _ lC
 obtain⟨hp,g,d,t,os⟩:=s
 refine YBx (ZlL (K:=X.K) KX hx hC (YBf KX hi) (fun self=>Looks.of_pure (F.excBase_ValueError.init.bind self)) hz' ?_)
 refine ZeD I2 m Zad hz' _ fun s' I3=>⟨rfl,?_⟩
 exact⟨.ref _,_,I3,rfl,hq⟩
theorem ZhI {CX:CXT} {k:Nat} {fd:FuncData} {ps:List Str} {sp:Sp} {E:XK} {pins:List (Addr×Obj)} {σ:St} {H:Hp} {s:Shared} {Q:VK} {us:List Value} {vs:List V} (m:Xm X.K C) (hi:findIn X.K (.ref C) "__init__"=some (some (.ref fI))) (hfn:PySem.W.isFn X.K (.ref fI)=true)
  (F:FnOk X.prog X.w X.K X.mg X.base CX k fI fd ps sp) (hr:Room (k+1) X.A) (hb:Binds X.K fd ps []) (hxp:ZbO CX X E) (I:Inv X pins σ H s) (r:Vals vs us) (hz:vs.length≤1000)
  (h:∀e,H e=none→sp (.ref e::vs) (upd H e (xo e C none)) (fun v H2=>v=.non∧Q (.ref e) H2) E):wpAny (model X.prog X.w) X.A (call (.ref C) us) (EP X pins σ Q) X.xe s:=by
 obtain⟨nm,qn,N,bs,bm,hdct,sn,sub,ab,col,dd,k0,k1,k2,k3,k5,lC,hx⟩:=m.parts
 have I2:=Inv.xmade (C:=C) (us:=us) I
 have hq:=h (s.heap.objs.size+1) (I.hok.fresh (YCc _))
 have hz':us.length≤sizeLine:=by rw[←r.length];exact YAP hz (by rw[sizeLine_eq];decide)
 have KX:=I.kIn
 have hC:=KX _ _ lC
 have r2:Vals (V.ref (s.heap.objs.size+1)::vs) (Value.ref (s.heap.objs.size+1)::us):=.cons rfl r
 have hl:((Value.ref (s.heap.objs.size+1)::us)++[]).length=ps.length:=by
  have e:=r2.length
  rw[F.len _ _ _ _ hq]at e
  rw[YBt]
  exact e.symm
 have hb2:=hb { s with heap:=(s.heap.push (tupO us)).push (xraw C s.heap.objs.size) } (Value.ref (s.heap.objs.size+1)::us) I2.kIn hl
 rw[YBt]at hb2
 obtain⟨hp,g,d,t,os⟩:=s
 refine YBx (ZlL (K:=X.K) KX hx hC (YBf KX hi) (fun self=>PySem.W.bind_fn KX self (beq_iff_eq.mp hfn)) hz' ?_)
 refine codeAny_mono (F.run _ X.stack _ _ ⟨Value.ref (hp.objs.size+1)::us,[]⟩ (Value.ref (hp.objs.size+1)::us) _ _ E (hr.make C us []) (I2.env0.make C us []) hb2 r2 hq) fun r s' hq'=>?_
 cases r with
 | error e=>exact hxp pins σ _ _ e s' I2 hq'
 | ok fl=>
  cases fl with
  | ret u=>
   obtain⟨v,H',I3,rv,ev,q3⟩:=I2.after hq'
   subst ev
   exact⟨rv,⟨V.ref (hp.objs.size+1),H',I3,rfl,q3⟩⟩
  | next=>exact False.elim hq'
  | brk=>exact False.elim hq'
  | cont=>exact False.elim hq'
theorem Zco (m:Xm X.K C) (hi:findIn X.K (.ref C) "__init__"=some (some (.builtin "ValueError.__init__"))) (hg:Gl X x) (hm:X.mg x=some (.ref C)) (ha:PA X (e::es) t)
  (hdb:(x == ("__debug__":Str))=false:=by decide) (he:starEach (e::es) X.env=(false,eval e X.env)::starEach es X.env:=by rfl) (hpl:(backTo pos (starEach es X.env)).any (·.1)=false:=by rfl):
  PE X (.Call (.Name x p) (e::es) [] pos) (Zhy X.K C t):=by
 intro pins s σ H Q I h
 refine YBJ (Zbv I hg hm ?_ hdb)
 refine YBl (h₀:=X.base) I.ok.mod.kin m.kp (thn (ha pos pins s σ H _ I h) fun us s1 ⟨vs,H1,I1,r,hz,q⟩=>⟨I1.kIn,?_⟩) he hpl
 exact ZgX m hi I1 (by rw[List.nil_append,←r.length];exact hz) q
theorem Zgm {CX:CXT} {k:Nat} {fd:FuncData} {ps:List Str} {sp:Sp} {E:XK} (m:Xm X.K C) (hi:findIn X.K (.ref C) "__init__"=some (some (.ref fI))) (hfn:PySem.W.isFn X.K (.ref fI)=true)
  (F:FnOk X.prog X.w X.K X.mg X.base CX k fI fd ps sp) (hr:Room (k+1) X.A) (hb:Binds X.K fd ps []) (hxp:ZbO CX X E) (hg:Gl X x) (hm:X.mg x=some (.ref C)) (ha:PA X (e::es) t)
  (hdb:(x == ("__debug__":Str))=false:=by decide) (he:starEach (e::es) X.env=(false,eval e X.env)::starEach es X.env:=by rfl) (hpl:(backTo pos (starEach es X.env)).any (·.1)=false:=by rfl):
  PE X (.Call (.Name x p) (e::es) [] pos) (ZjO C sp E t):=by
 intro pins s σ H Q I h
 refine YBJ (Zbv I hg hm ?_ hdb)
 refine YBl (h₀:=X.base) I.ok.mod.kin m.kp (thn (ha pos pins s σ H _ I h) fun us s1 ⟨vs,H1,I1,r,hz,q⟩=>⟨I1.kIn,?_⟩) he hpl
 exact ZhI m hi hfn F hr hb hxp I1 r hz q
structure ClsRead (K:Frag)(C:Addr)(f:Str)(v:Value):Prop where
 sp:specialIn K (.ref C) "__getattribute__"=some (some (.builtin "type.__getattribute__"))
 rd:PySem.W.readsIn K C (.type "type")=true
 fd:PySem.W.findCls K (.ref C) (.type "type") f=some (.val v)
 hn:PySem.W.handedIn v=true
def ZjP (K:Frag)(t:TA):TE:=fun σ H Q=>t σ H fun vs H1=>∃e C d rest,vs=.ref e::rest∧H1 e=some (xo e C d)∧Xm K C∧rest.length≤1000∧Q .non H1
theorem Zjb {L:Addr} {pl:Sem Bool} {apos:Pos} {np:Pos} (hg:Gl X x) (hm:X.mg x=some (.ref L)) (cr:ClsRead X.K L "__init__" (.builtin "ValueError.__init__")) (ha:PA X (e::es) t)
  (hdb:(x == ("__debug__":Str))=false:=by decide) (hst:starEach (e::es) X.env=(false,eval e X.env)::starEach es X.env:=by rfl) (hpl:(backTo pos (starEach es X.env)).any (·.1)=false:=by rfl)
  (ht:eval (.Call (.Attribute (.Name x np) "__init__" apos) (e::es) [] pos) X.env=(do
   let ov ←eval (.Name x np) X.env
   standAt apos.atName
   let (f,first) ←holding [ov] (getMethod ov "__init__" pl)
   callWith pos f first (backTo pos (starEach (e::es) X.env)) (backToKw pos (keywordEach [] X.env))):=by rfl):
  PE X (.Call (.Attribute (.Name x np) "__init__" apos) (e::es) [] pos) (ZjP X.K t):=by
 intro pins s σ H Q I h
 refine YCa (pl:=pl) (Zbv I hg hm ?_ hdb) ht
 refine PySem.W.method_cls I.kIn cr.sp (PySem.W.cls_value I.kIn cr.rd cr.fd cr.hn ?_)
 refine YDC (thn (ha pos pins _ σ H _ (I.tok _) h) fun us s1 ⟨vs,H1,I1,r1,ev,C,d,rest,evs,hx,m,hz,q⟩=>?_) hst hpl
 subst evs
 cases r1 with
 | cons ru rr=>
  cases ru
  refine YBx (ZeD I1 m hx (by rw[←rr.length];exact YAP hz (by rw[sizeLine_eq];decide)) _ fun s' I3=>?_)
  exact⟨.non,H1,I3,rfl,q⟩
end
end L2
namespace L2
open PySem PySem.Spec PyProof.Rows
section
variable {X:Cx}{pins:List (Addr×Obj)}{σ:St}{H:Hp}{s:Shared}
theorem Inv.turnedN {t':Nat}{h':Heap}{fp:List Addr}(I:Inv X pins σ H s)(k:∀b o,b∉fp→s.heap.get? b=some o→h'.get? b=some o)(hf:∀b∈fp,FpOk X pins H b):Inv X pins σ H { s with heap:=h',toks:=t' }:=by
 have nit:∀b u,H b=some u→b∉fp:=fun b u e z=>by rw[(hf b z).1]at e;cases e
 refine I.step (g':=s.gens) (d':=s.drawn) (ch:=fp) (fun b hb=>?_) (fun b o _ _ hc e _=>k b o hc e) (fun b o _ _ hc e _=>⟨o.slots,k b o hc e⟩) (fun _ _ _ _ n=>n)
  (fun b o hc e=>⟨o,k b o hc e⟩) (fun _ _ e=>e) (fun _ _ _ e=>e) (fun b ps e=>⟨#[],by rw[e];simp⟩) (fun m hm=>?_) (fun b u e=>?_) I.bare
 ·obtain⟨_,f1,_,f3,f4,f5⟩:=hf b hb
  exact⟨f3,f1,f4,f5⟩
 ·obtain⟨o,es,ep,ho,r⟩:=hm
  exact⟨o,es,ep,k _ o (fun z=>(hf _ z).2.1 rfl) ho,r⟩
 ·refine(I.hok b u e).stay (fun c v hc q=>k c v ?_ q) (fun _ q=>q) fun _ _ q=>q
  rcases hc with z | z
  ·rw[z];exact nit b u e
  ·exact nit c _ z
theorem Inv.track {p:Addr}{o:HO}(I:Inv X pins σ H s)(hf:FpOk X pins H p)(hs:X.s₀.heap.objs.size≤p)(ok:ObjOk X.prog X.w (upd H p o) s.heap p o):Inv X pins σ (upd H p o) s:=by
 obtain⟨f0,f1,f2,f3,f4,f5⟩:=hf
 have ne:∀b o',X.s₀.heap.get? b=some o'→b≠p:=fun b o' e=>YAX (YAj (YAH e) hs)
 have nh:∀b u,H b=some u→b≠p:=fun b u e=>Zak e f0
 refine⟨I.ok,I.os,I.bare,⟨I.base.keep,I.base.slot,fun b o' e n hb=>?_,I.base.there,fun b xs e=>?_,fun b o' u e=>?_,fun b ps e=>?_⟩,I.loc,I.cell,?_,fun x c e=>?_,fun q hq=>?_,fun b u e=>?_,I.len⟩
 ·rw[Zae (ne b o' e)];exact I.base.free b o' e n hb
 ·have:=I.base.tups b xs e
  rw[Zae (nh b _ this)];exact this
 ·have:=I.base.frzs b o' u e
  rw[Zae (nh b _ this)];exact this
 ·obtain⟨m,q⟩:=I.base.tbls b ps e
  exact⟨m,by rw[Zae (nh b _ q)];exact q⟩
 ·rw[Zae (YAx f1)];exact I.free
 ·rw[Zae (f4 x c e)];exact I.freeC x c e
 ·obtain⟨e,n,r⟩:=I.pin q hq
  refine⟨e,?_,r⟩
  rw[Zae (f5 q hq)];exact n
 ·by_cases hb:b=p
  ·subst hb
   rw[Zad]at e
   cases e
   exact ok
  ·rw[Zae hb]at e
   refine(I.hok b u e).stay (fun _ _ _ q=>q) (fun c q=>?_) fun c xs q=>?_
   ·rw[Zae (nh c _ q)];exact q
   ·rw[Zae (nh c _ q)];exact q
end
noncomputable def Ite (K:PySem.W.Frag)(a:Addr):It:=
 ⟨fun i H=>∃xs x,SqL K H a xs∧xs[i]?=some x,fun i H x H'=>∃p v,H p=none∧x=.ref p∧H'=upd H p (.tup [.int i,v])∧∀xs,SqL K H a xs→xs[i]?=some v,fun i H=>∃xs,SqL K H a xs∧xs.length≤i⟩
section
variable {X:Cx}{es:List Expr}{x1:Nat}{tp:Pos}
end
section
variable {H:Hp}{Q:VK}{σ:St}
theorem q_I {C:Int→Int→Prop}{g:Int→Int→V}{i j:Int}:rI C g (.int i) (.int j) H Q=(C i j∧Q (g i j) H):=
 propext ⟨fun ⟨_,_,e1,e2,h⟩=>by cases e1;cases e2;exact h,fun h=>⟨i,j,rfl,rfl,h⟩⟩
theorem q_I0 {g:Int→Int→V}{i j:Int}:rI0 g (.int i) (.int j) H Q=Q (g i j) H:=
 propext ⟨fun ⟨_,_,e1,e2,h⟩=>by cases e1;cases e2;exact h,fun h=>⟨i,j,rfl,rfl,h⟩⟩
theorem q_U {g:Int→V}{i:Int}:rU g (.int i) H Q=Q (g i) H:=
 propext ⟨fun ⟨_,e1,h⟩=>by cases e1;exact h,fun h=>⟨i,rfl,h⟩⟩
theorem q_T {C:List Nat→List Nat→Prop}{g:List Nat→List Nat→V}{a b:List Nat}:rT C g (tx a) (tx b) H Q=(C a b∧Q (g a b) H):=
 propext ⟨fun ⟨_,_,e1,e2,h⟩=>by rw[ZdR.mp e1,ZdR.mp e2];exact h,fun h=>⟨a,b,rfl,rfl,h⟩⟩
theorem q_b {b:Bool}{p:Bool→Prop}:(∃k,V.bl b=V.bl k∧p k)=p b:=
 propext ⟨fun ⟨_,e,h⟩=>by cases e;exact h,fun h=>⟨b,rfl,h⟩⟩
theorem q_var {v:V}{p:V→Prop}:(∃u,some (some v)=some (some u)∧p u)=p v:=
 propext ⟨fun ⟨_,e,h⟩=>by cases e;exact h,fun h=>⟨v,rfl,h⟩⟩
theorem q_var' {v:V}{p:V→Prop}:(∃u,v=u∧p u)=p v:=
 propext ⟨fun ⟨_,e,h⟩=>by cases e;exact h,fun h=>⟨v,rfl,h⟩⟩
end
end L2
namespace L2
open PySem PySem.Spec PyProof.Rows
open PySem.W (Frag findIn specialIn typeIn mroIn clsIn subIn kitOne kitCls)
noncomputable def ZnA (sc sco:Scope):Bool:=decide (sc.kind=.function)&&sc.names.all fun y=>decide (y.2≠NameKind.cell)&&(decide (y.2≠NameKind.local) || decide (sc.names.lookup y.1=some NameKind.local)) &&
 (decide (y.2≠NameKind.free) || (decide (sco.names.lookup y.1=some NameKind.cell) || decide (sco.names.lookup y.1=some NameKind.free)))
theorem Zbc {X:Cx}{sc:Scope}(h:ZnA sc X.env.scope=true):CmpScope X sc:=by
 unfold ZnA at h
 rw[YAR,YBE]at h
 obtain⟨h1,h2⟩:=h
 refine⟨of_decide_eq_true h1,fun y hy=>?_,fun y hy e=>?_,fun y hy e=>?_⟩
 ·have:=h2 y hy
  simp only[YAR,Bool.or_eq_true,decide_eq_true_eq]at this
  exact this.1.1
 ·have:=h2 y hy
  simp only[YAR,Bool.or_eq_true,decide_eq_true_eq]at this
  rcases this.1.2 with z | z
  ·exact absurd e z
  ·exact z
 ·have:=h2 y hy
  simp only[YAR,Bool.or_eq_true,decide_eq_true_eq]at this
  rcases this.2 with z | z | z
  ·exact absurd e z
  ·exact .inl z
  ·exact .inr z
section
variable {K:Frag}{H:Hp}{C D:Addr}
structure ClsOk (K:Frag)(C:Addr)(mro:List Value):Prop where
 cd:∃cd,clsIn K C=some cd∧cd.mro=mro
 ty:typeIn K (.ref C)=some (.type "type")
 ne:mro.isEmpty=false
theorem Zih {m1 m2:List Value}{b:Bool}(c:ClsOk K C m1)(d:ClsOk K D m2)(h:m1.contains (.ref D)=b)(hh:C=D→b=true):kitOne K (.ref C) (.ref D)=some b:=by
 obtain⟨cd,e1,e2⟩:=c.cd
 obtain⟨cd',e3,e4⟩:=d.cd
 unfold PySem.W.kitOne
 split
 ·rename_i z
  have z':Value.ref C=Value.ref D:=by simpa using z
  cases z'
  rw[hh rfl]
 ·unfold PySem.W.kitCls
  dsimp only
  rw[e3,d.ty]
  simp only[Option.isSome_some,YCC,beq_self_eq_true,if_true]
  unfold PySem.W.subIn PySem.W.mroIn
  dsimp only
  rw[e1,YBy,e2,c.ne,h]
  rfl
def Zge (K:Frag)(C:Addr)(n:Nat)(fs:List V→List (Str×V)):Sp:=fun vs H Q _=>∃e r,vs=.ref e::r∧r.length=n∧H e=some (xo e C none) ∧
 ∀H',XAt H' e C (fs r)→(∀b o,H b=some o→b≠e→H' b=some o)→Q .non H'
theorem Zaz {a:Addr}{o:HO}(h:H a=none):Same H (upd H a o):=fun b u hb=>by rw[Zae (Zak hb h)];exact hb
end
def Mk0 (C:Addr)(H:Hp)(Q:VK):Prop:=∀e,H e=none→Q (.ref e) (upd H e (xo e C none))
def MkI (sp:Sp)(E:XK)(C:Addr)(vs:List V)(H:Hp)(Q:VK):Prop:=∀e,H e=none→sp (.ref e::vs) (upd H e (xo e C none)) (fun v H2=>v=.non∧Q (.ref e) H2) E
def NewL (xs:List V)(H:Hp)(Q:VK):Prop:=∀p,H p=none→Q (.ref p) (upd H p (.lst xs))
def NewT (xs:List V)(H:Hp)(Q:VK):Prop:=∀p,H p=none→Q (.ref p) (upd H p (.tup xs))
section
variable {K:Frag}{C:Addr}{sp:Sp}{E:XK}{t:TA}{σ:St}{H:Hp}{Q:VK}{vs:List V}
theorem ZoW:Zhy K C t σ H Q=t σ H (fun vs H1=>vs.length≤1000∧Mk0 C H1 Q):=rfl
theorem ZoV:ZjO C sp E t σ H Q=t σ H (fun vs H1=>vs.length≤1000∧MkI sp E C vs H1 Q):=rfl
theorem ZoX:tLst t σ H Q=t σ H (fun xs H1=>xs.length≤sizeLine∧NewL xs H1 Q):=rfl
theorem ZoU:tTup t σ H Q=t σ H (fun xs H1=>xs.length≤sizeLine∧NewT xs H1 Q):=rfl
theorem Zml {l b:Addr}:rCat (.ref l) (.ref b) H Q=∃xs zs,H l=some (.lst xs)∧H b=some (.lst zs)∧xs.length+zs.length≤sizeLine∧NewL (xs++zs) H Q:=
 propext ⟨fun ⟨_,_,xs,zs,e1,e2,h⟩=>by cases e1;cases e2;exact⟨xs,zs,h⟩,fun ⟨xs,zs,h⟩=>⟨l,b,xs,zs,rfl,rfl,h⟩⟩
theorem MkI.of {n:Nat}{fs:List V→List (Str×V)}(hn:vs.length=n)(h:∀e H',Same H H'→H e=none→XAt H' e C (fs vs)→Q (.ref e) H'):MkI (Zge K C n fs) E C vs H Q:=
 fun e he=>⟨e,vs,rfl,hn,Zad,fun H' x k=>⟨rfl,h e H' (fun b o hb=>k b o (by rw[Zae (Zak hb he)];exact hb) (Zak hb he)) he x⟩⟩
theorem NewL.of (h:∀p H',Same H H'→H p=none→H' p=some (.lst vs)→Q (.ref p) H'):NewL vs H Q:=fun p hp=>h p _ (Zaz hp) hp Zad
theorem NewT.of (h:∀p H',Same H H'→H p=none→H' p=some (.tup vs)→Q (.ref p) H'):NewT vs H Q:=fun p hp=>h p _ (Zaz hp) hp Zad
theorem NewL.at (h:∀p,H p=none→Q (.ref p) (upd H p (.lst vs))):NewL vs H Q:=h
theorem NewT.at (h:∀p,H p=none→Q (.ref p) (upd H p (.tup vs))):NewT vs H Q:=h
theorem Zd7:bootBuiltins "str"=some (.type "str"):=by decide +kernel
theorem Zko:bootBuiltins "int"=some (.type "int"):=by decide +kernel
theorem ZcM:bootBuiltins "bool"=some (.type "bool"):=by decide +kernel
theorem Zbw:bootBuiltins "list"=some (.type "list"):=by decide +kernel
theorem Zb7:bootBuiltins "tuple"=some (.type "tuple"):=by decide +kernel
theorem Zkn:bootBuiltins "set"=some (.type "set"):=by decide +kernel
theorem ZnD:bootBuiltins "zip"=some (.type "zip"):=by decide +kernel
theorem ZaL:bootBuiltins "len"=some (.builtin "len"):=by decide +kernel
theorem Zal:bootBuiltins "isinstance"=some (.builtin "isinstance"):=by decide +kernel
theorem ZnE:bootBuiltins "all"=some (.builtin "all"):=by decide +kernel
theorem ZdI:bootBuiltins "sorted"=some (.builtin "sorted"):=by decide +kernel
end
def Own (K:Frag)(H:Hp)(d:DT)(x:V):Prop:=DatOk K H d x∧deq d d=true∧dep d≤60
theorem ZhF {x:V}(h:Zbb x=true):scal x x=true:=by cases x<;>first | rfl | cases h
theorem Zk4 {K:Frag}{H:Hp}{Q:VK}{d:DT}{x:V}(o:Own K H d x)(q:Q (.bl false) H):rEqD K true x x H Q:=by
 obtain⟨h1,h2,h3⟩:=o
 by_cases hf:Zbb x=true
 ·exact .inl ⟨ZhF hf,by rw[decide_eq_true rfl];exact q⟩
 ·exact .inr ⟨d,d,h1,h1,fun z=>hf z.1,h3,by rw[h2];exact q⟩
theorem Own.same {K:Frag}{H H':Hp}{d:DT}{x:V}(o:Own K H d x)(s:Same H H'):Own K H' d x:=⟨s.dat o.1,o.2⟩
theorem SqL.mk {K:Frag}{H:Hp}{a:Addr}{xs:List V}(h:H a=some (.lst xs)):SqL K H a xs:=.inl (.inl h)
theorem SqT.mk {K:Frag}{H:Hp}{a:Addr}{xs:List V}(h:H a=some (.tup xs)):SqT K H a xs:=.inl (.inl h)
theorem ZnB {l b:Addr}{xs zs:List V}{H:Hp}{Q:VK}(h1:H l=some (.lst xs))(h2:H b=some (.lst zs))(hz:xs.length+zs.length≤sizeLine)
  (h:∀p H',Same H H'→H p=none→H' p=some (.lst (xs++zs))→Q (.ref p) H'):rCat (.ref l) (.ref b) H Q:=⟨l,b,xs,zs,rfl,rfl,h1,h2,hz,fun p hp=>h p _ (Zaz hp) hp Zad⟩
theorem ZnG {e C d:Addr}:¬(some (xo e C none)=some (xo e C (some d))):=by
 intro z
 have z1:xo e C none=xo e C (some d):=Option.some.inj z
 unfold xo at z1
 have z2:=HO.ext.inj z1
 have hget:(⟨Array.replicate (e+1) (xraw C 0),{}⟩:Heap).get? e=some (xraw C 0):=by
  unfold Heap.get?
  have:(Array.replicate (e+1) (xraw C 0))[e]?=some (xraw C 0):=by simp
  dsimp only
  rw[this]
 have q:=congrFun z2 ⟨Array.replicate (e+1) (xraw C 0),{}⟩
 have l:∃(o:Obj) (t:Addr),(⟨Array.replicate (e+1) (xraw C 0),{}⟩:Heap).get? e=some o∧o.cls=.ref C∧o.dict=none∧o.data=.fields #[.ref t,.none,.none,.none,.bool false,.none]:=⟨_,0,hget,rfl,rfl,rfl⟩
 have r:=q.mp l
 obtain⟨o,t,h1,_,h3,_⟩:=r
 rw[hget]at h1
 cases h1
 cases h3
section
variable {X:Cx}{K:Frag}
theorem ZaH (hK:X.K=K)(hu:X.A.units+64<cLine):OpR X (compareOp .Eq) (rEqD K false):=by subst hK;exact Zj5 hu
theorem Zcd (hK:X.K=K)(hu:X.A.units+64<cLine):OpR X (compareOp .NotEq) (rEqD K true):=by subst hK;exact Zj4 hu
theorem Zbm (hK:X.K=K):IxR X (rIxL K):=by subst hK;exact Zlg
theorem Zen (hK:X.K=K):IxR X (rIxT K):=by subst hK;exact Zng
theorem ZiY (hK:X.K=K):SlR X (rSlL K):=by subst hK;exact ZkC
theorem Zcr (hK:X.K=K):OpR X (compareOp .NotIn) (rIn K true):=by subst hK;exact ZeV
theorem Zas (hK:X.K=K):ZcD X (.builtin "len") (fun xs H Q=>∃x n,xs=[x]∧LenV K x H n∧Q (.int n) H):=by subst hK;exact ZjJ
theorem ZaK {e:Expr}{f:Str}{pos:Pos}{ta:TE}(hK:X.K=K)(he:PE X e ta)(hb:attributeBase e f X.env (eval e X.env)=eval e X.env):PE X (.Attribute e f pos) (tFld K ta f):=by subst hK;exact Zmq he hb
theorem Zbj {tg l:Expr}{tl:TE}(hK:X.K=K)(hl:PE X l tl):PI X tg l (Zll K tl):=by subst hK;exact ZkV hl
end
theorem cxK {CX:CXT}{P:Program}{w:World}{K:PySem.W.Frag}{mg:Str→Option Value}{base:Heap}{N:List Str}{qual:Str}{scope:Scope}{f:Addr}{cd:Value}{A:Around}{outer:List Env}{s:Shared}{H:Hp}{E:XK}:
  (cxOf CX P w K mg base N qual scope f cd A outer s H E).K=K:=rfl
theorem bxK {X:Cx}{sc:Scope}{N:List Str}{fp:List Addr}{s₀:Shared}{H:Hp}{pn:List (Addr×Obj)}:(bx X sc N fp s₀ H pn).K=X.K:=rfl
end L2
namespace L2
open PySem PySem.Spec PyProof.Rows
open PySem.W (Frag)
def ForRun (J:It)(g:TG)(tb:TS)(D:Ends)(σ:St)(H:Hp):Prop:=∃W:Nat→Nat→St→Hp→Prop,(∃m,W 0 m σ H)∧∀i m σ H,W i m σ H →
 (J.stop i H∧D.nx σ H)∨(J.go i H∧∃N:St→Hp→Prop,(∀σ' H',N σ' H'→∃m',m'<m∧W (i+1) m' σ' H')∧∀x H',J.yld i H x H'→g x σ H' fun σ2 H2=>tb { D with nx:=N,ct:=N,bk:=D.nx } σ2 H2)
theorem ZoY {wi:TI}{g:TG}{tb:TS}{D:Ends}{σ:St}{H:Hp}:tFor wi g tb D σ H=wi σ H fun J H1=>ForRun J g tb D σ H1:=rfl
def CompRun (J:It)(τ0:St)(g:TG)(tt:TT)(te:TE)(H1:Hp)(Q:VK):Prop:=∀acc,H1 acc=none→∃W:Nat→Nat→St→Hp→Prop,(∃m,W 0 m τ0 (upd H1 acc (.lst []))) ∧
 ∀i m τ H2,W i m τ H2→(J.stop i H2∧Q (.ref acc) H2)∨(J.go i H2∧∃Nx:St→Hp→Prop,(∀τ' H',Nx τ' H'→∃m',m'<m∧W (i+1) m' τ' H') ∧
  ∀x H3,J.yld i H2 x H3→g x τ H3 fun τ2 H4=>tt τ2 H4 fun b H5=>if b=true then te τ2 H5 fun y H6=>∃ys,H6 acc=some (.lst ys)∧ys.length<sizeLine∧Nx τ2 (upd H6 acc (.lst (ys++[y]))) else Nx τ2 H5)
theorem Zmk {ix:List (Option Nat)}{wi:TI}{g:TG}{tt:TT}{te:TE}{σ:St}{H:Hp}{Q:VK}:Zkx ix wi g tt te σ H Q=wi σ H fun J H1=>CompRun J (pick ix σ) g tt te H1 Q:=rfl
section
variable {g:TG}{tb:TS}{D:Ends}{σ:St}{H:Hp}{K:Frag}{a:Addr}{xs:List V}
theorem ForRun.list (Pv:Nat→St→Hp→Prop)(h0:Pv 0 σ H)(hl:∀i σ H,i≤xs.length→Pv i σ H→SqL K H a xs)
  (hs:∀i x σ H,xs[i]?=some x→Pv i σ H→g x σ H fun σ2 H2=>tb { D with nx:=Pv (i+1),ct:=Pv (i+1),bk:=D.nx } σ2 H2) (hd:∀σ H,Pv xs.length σ H→D.nx σ H):ForRun (Itl K a) g tb D σ H:=
 Zjz Pv h0 hl hs hd
theorem ForRun.range {lo:Int}{n:Nat}(Pv:Nat→St→Hp→Prop)(h0:Pv 0 σ H)
  (hs:∀i σ H,i<n→Pv i σ H→g (.int (lo+i)) σ H fun σ2 H2=>tb { D with nx:=Pv (i+1),ct:=Pv (i+1),bk:=D.nx } σ2 H2) (hd:∀σ H,Pv n σ H→D.nx σ H):
  ForRun (Itr lo n) g tb D σ H:=Zis Pv h0 hs hd
theorem ForRun.text {l:List Nat}(Pv:Nat→St→Hp→Prop)(h0:Pv 0 σ H)
  (hs:∀i c σ H,l[i]?=some c→Pv i σ H→g (tx [c]) σ H fun σ2 H2=>tb { D with nx:=Pv (i+1),ct:=Pv (i+1),bk:=D.nx } σ2 H2) (hd:∀σ H,Pv l.length σ H→D.nx σ H):
  ForRun (Its l) g tb D σ H:=Zjy Pv h0 hs hd
end
section
variable {tt:TT}{te:TE}{Q:VK}{τ0:St}{H:Hp}
theorem CompRun.gen {J:It}{n:Nat}(v:Nat→V)(b:Nat→Bool)(f:Nat→V)(hz:n≤1000)(hgo:∀i H',i<n→Same H H'→J.go i H')(hst:∀H',Same H H'→J.stop n H')(hy:∀i H' x H3,i<n→Same H H'→J.yld i H' x H3→H3=H'∧x=v i)
  (ht:∀i H' Q',i<n→Same H H'→(∀H'',Same H' H''→Q' (b i) H'')→tt (τ0.set 0 (some (v i))) H' Q')
  (he:∀i H' Q',i<n→b i=true→Same H H'→(∀H'',Same H' H''→Q' (f i) H'')→te (τ0.set 0 (some (v i))) H' Q')
  (hQ:∀p H',Same H H'→H p=none→H' p=some (.lst (((List.range n).filter b).map f))→Q (.ref p) H'):CompRun J τ0 (ZcZ 0) tt te H Q:=by
 intro acc ha
 refine⟨fun i m τ H2=>i≤n∧m=n-i∧(∀w:Option V,τ.set 0 w=τ0.set 0 w)∧Same H H2∧H2 acc=some (.lst (((List.range i).filter b).map f)),⟨n,YAz _,rfl,fun _=>rfl,Zaz ha,Zad⟩,?_⟩
 rintro i m τ H2 ⟨hi,rfl,hτ,hs,hacc⟩
 by_cases hlt:i<n
 ·refine .inr ⟨hgo i H2 hlt hs,fun τ' H'=>(∀w:Option V,τ'.set 0 w=τ0.set 0 w)∧Same H H'∧H' acc=some (.lst (((List.range (i+1)).filter b).map f)),fun τ' H' q=>⟨n-(i+1),by omega,hlt,rfl,q⟩,fun x H3 y=>?_⟩
  obtain⟨rfl,rfl⟩:=hy i H2 x H3 hlt hs y
  show tt (τ.set 0 (some (v i))) _ _
  rw[hτ]
  have hτ':∀w:Option V,(τ0.set 0 (some (v i))).set 0 w=τ0.set 0 w:=fun w=>by rw[List.set_set]
  refine ht i _ _ hlt hs fun H4 s4=>?_
  cases hb:b i with
  | false=>
   rw[YAJ YAC]
   refine⟨hτ',hs.trans s4,?_⟩
   rw[s4 _ _ hacc,YBq,YCZ]
   simp[hb]
  | true=>
   rw[YAO rfl]
   refine he i _ _ hlt hb (hs.trans s4) fun H5 s5=>?_
   refine⟨_,s5 _ _ (s4 _ _ hacc),?_,hτ',?_,?_⟩
   ·rw[YAE]
    have:=YAt b (List.range i)
    rw[YBV]at this
    exact Zdg (by omega)
   ·intro c o hc
    have:c≠acc:=Zak hc ha
    rw[Zae this]
    exact s5 _ _ (s4 _ _ (hs _ _ hc))
   ·rw[Zad,YBq,YCZ]
    simp[hb]
 ·have e:i=n:=by omega
  subst e
  exact .inl ⟨hst H2 hs,hQ acc H2 hs ha hacc⟩
theorem CompRun.range {lo:Int}{n:Nat}(b:Nat→Bool)(f:Nat→V)(hz:n≤1000)
  (ht:∀(i:Nat) H' Q',i<n→Same H H'→(∀H'',Same H' H''→Q' (b i) H'')→tt (τ0.set 0 (some (.int (lo+i)))) H' Q')
  (he:∀(i:Nat) H' Q',i<n→b i=true→Same H H'→(∀H'',Same H' H''→Q' (f i) H'')→te (τ0.set 0 (some (.int (lo+i)))) H' Q')
  (hQ:∀p H',Same H H'→H p=none→H' p=some (.lst (((List.range n).filter b).map f))→Q (.ref p) H'):CompRun (Itr lo n) τ0 (ZcZ 0) tt te H Q:=
 .gen (fun i=>.int (lo+i)) b f hz (fun i _ h _=>h) (fun _ _=>YAQ _) (fun i H' x H3 _ _ y=>y) ht he hQ
theorem filter_all {n:Nat}{f:Nat→V}:((List.range n).filter fun _=>true).map f=(List.range n).map f:=by rw[List.filter_eq_self.mpr (fun _ _=>rfl)]
theorem CompRun.text {l:List Nat}(b:Nat→Bool)(f:Nat→V)(hz:l.length≤1000)
  (ht:∀i H' Q' (h:i<l.length),Same H H'→(∀H'',Same H' H''→Q' (b i) H'')→tt (τ0.set 0 (some (tx [l.getD i 0]))) H' Q')
  (he:∀i H' Q' (h:i<l.length),b i=true→Same H H'→(∀H'',Same H' H''→Q' (f i) H'')→te (τ0.set 0 (some (tx [l.getD i 0]))) H' Q')
  (hQ:∀p H',Same H H'→H p=none→H' p=some (.lst (((List.range l.length).filter b).map f))→Q (.ref p) H'):CompRun (Its l) τ0 (ZcZ 0) tt te H Q:=
 .gen (fun i=>tx [l.getD i 0]) b f hz (fun i _ h _=>h) (fun _ _=>YAQ _) (fun i H' x H3 _ _ y=>by
  obtain⟨e,c,hc,rfl⟩:=y
  refine⟨e,?_⟩
  rw[YAU,hc];rfl) ht he hQ
end
theorem ZdD:∀ {vs:List V},vs.all Zbb=true→deqs (vs.map DT.f) (vs.map DT.f)=true
 | [],_=>by unfold deqs;rfl
 | v::vs,h=>by
  rw[List.all_cons,YAR]at h
  rw[YAf]
  unfold deqs
  rw[ZdD h.2]
  unfold deq
  rw[Zet h.1]
  rfl
theorem ownF {K:Frag}{H:Hp}{v:V}(h:Zbb v=true):Own K H (.f v) v:=⟨datF h,by unfold deq;exact Zet h,by unfold dep;exact YAz _⟩
theorem ownL {K:Frag}{H:Hp}{a:Addr}{vs:List V}(h:SqL K H a vs)(hf:vs.all Zbb=true):Own K H (.l (vs.map DT.f)) (.ref a):=⟨datL h hf,by unfold deq;exact ZdD hf,by unfold dep;rw[Zfo];decide⟩
theorem ownT {K:Frag}{H:Hp}{a:Addr}{vs:List V}(h:SqT K H a vs)(hf:vs.all Zbb=true):Own K H (.t (vs.map DT.f)) (.ref a):=⟨datT h hf,by unfold deq;exact ZdD hf,by unfold dep;rw[Zfo];decide⟩
end L2
namespace L2
open PySem PySem.Spec PyProof.Rows
theorem ZnJ {t:SetTable}{n:Nat}:(t.orStandIn n).led=t.led∧((t.orStandIn n).plain=true→t.plain=true):=by
 unfold SetTable.orStandIn
 split
 ·exact⟨rfl,id⟩
 ·exact⟨rfl,fun h=>by cases h⟩
theorem ZlO {t:SetTable}{es:Array (Int×Value)}{h:Int}{x:Value}:(layNew t es h x).2.1.led=t.led∧((layNew t es h x).2.1.plain=true→t.plain=true):=by
 unfold layNew
 split
 ·rename_i slot wd _
  exact ZnJ (t:=(t.put slot).1)
 ·exact⟨rfl,fun h=>by cases h⟩
theorem Zkt {mask finger moves:Nat}{led plain:Bool}{hs:Array Int}{t':SetTable}{order:Array Nat}(e:SetTable.laid mask finger moves led plain hs=some (t',order)):t'.led=led∧t'.plain=plain:=by
 unfold SetTable.laid at e
 cases hq:SetTable.layClean mask hs with
 | none=>rw[hq]at e;cases e
 | some ow=>
  rw[hq]at e
  have e':=Option.some.inj e
  obtain⟨z,_⟩:=Prod.mk.inj e'
  subst z
  exact⟨rfl,rfl⟩
theorem ZiS {t:SetTable}{es:Array (Int×Value)}{n:Nat}:(relayAll t es n).2.1.led=t.led∧((relayAll t es n).2.1.plain=true→t.plain=true):=by
 unfold relayAll
 split
 ·rename_i t' order q
  obtain⟨h1,h2⟩:=Zkt q
  dsimp only
  split
  ·exact⟨h1,fun h=>by rw[←h2];exact h⟩
  ·exact⟨rfl,fun h=>by cases h⟩
 ·exact⟨rfl,fun h=>by cases h⟩
def TxSet (P:Program)(w:World)(h:Heap)(a:Addr)(ls:List (List Nat))(led:Bool):Prop:=
 ∃(o:Obj) (es:Array (Int×Value)) (ep:Nat) (t:SetTable) (ms:List (List Nat)),h.get? a=some o∧o.ExactSet∧o.data=.set es ep t∧ElemsOf (ZaI P w) es.toList∧t.fits es.size=true ∧
  t.led=led∧(t.plain=true→es.size=0)∧ms.Perm ls∧Vals (ms.map tx) (es.toList.map (·.2))∧es.size<scanBound
theorem TxSet.keep {P:Program}{w:World}{h h':Heap}{a:Addr}{ls:List (List Nat)}{led:Bool}(x:TxSet P w h a ls led)(k:∀o,h.get? a=some o→h'.get? a=some o):TxSet P w h' a ls led:=by
 obtain⟨o,es,ep,t,ms,h1,r⟩:=x
 exact⟨o,es,ep,t,ms,k o h1,r⟩
theorem TxSet.typ {P:Program}{w:World}{s:Shared}{a:Addr}{ls:List (List Nat)}{led:Bool}(x:TxSet P w s.heap a ls led):s.TypeIs (.ref a) "set":=by
 obtain⟨o,es,ep,t,ms,h1,h2,_⟩:=x
 exact⟨o,h1,h2.1⟩
noncomputable def addT (ls:List (List Nat))(l:List Nat):List (List Nat):=if l∈ls then ls else ls++[l]
theorem Zpn {l:List Nat}{v:V}{u:Value}(r:RelV v u)(hv:∃m,v=tx m):Zem (Sum.inr (⟨l.toArray⟩:Str):Key) u=decide (v=tx l):=by
 obtain⟨m,rfl⟩:=hv
 obtain⟨t,rfl⟩:=r
 rw[ZcV]
 simp only[Zem,Value.isStrOf]
 by_cases h:m=l
 ·subst h;simp
 ·have:¬(⟨m.toArray⟩:Str)=⟨l.toArray⟩:=fun e=>h (ZdR.mp (congrArg V.str e))
  rw[decide_eq_false h]
  simp[this]
theorem Zf8 {l:List Nat}:∀ {ms:List (List Nat)} {es:List (Int×Value)},Vals (ms.map tx) (es.map (·.2))→((∃e∈es,Zem (Sum.inr (⟨l.toArray⟩:Str):Key) e.2=true)↔l∈ms)
 | [],[],_=>by simp
 | [],_::_,r=>by cases r
 | _::_,[],r=>by cases r
 | m::ms,e::es,r=>by
  cases r with
  | cons r1 r2=>
   have ih:=Zf8 (l:=l) r2
   have q:=Zpn (l:=l) r1 ⟨m,rfl⟩
   rw[ZcV]at q
   constructor
   ·rintro⟨x,hx,hk⟩
    rcases YAK.mp hx with z | z
    ·subst z
     rw[q]at hk
     exact YAK.mpr (.inl (of_decide_eq_true hk).symm)
    ·exact YAK.mpr (.inr (ih.mp ⟨x,z,hk⟩))
   ·intro h
    rcases YAK.mp h with z | z
    ·exact⟨e,YAa,by rw[q];exact decide_eq_true z.symm⟩
    ·obtain⟨x,hx,hk⟩:=ih.mpr z
     exact⟨x,YAW _ hx,hk⟩
theorem Zdc {us us':List Value}(p:us'.Perm us):∀ {ms:List (List Nat)},Vals (ms.map tx) us→∃ms':List (List Nat),ms'.Perm ms∧Vals (ms'.map tx) us':=by
 induction p with
 | nil=>intro ms r;exact⟨ms,.refl _,r⟩
 | cons x _ ih=>
  intro ms r
  cases ms with
  | nil=>cases r
  | cons m ms=>
   cases r with
   | cons r1 r2=>
    obtain⟨ms',p',r'⟩:=ih r2
    exact⟨m::ms',p'.cons _,.cons r1 r'⟩
 | swap x y l=>
  intro ms r
  match ms,r with
  | m1::m2::ms,.cons r1 (.cons r2 r3)=>exact⟨m2::m1::ms,.swap _ _ _,.cons r2 (.cons r1 r3)⟩
 | trans _ _ ih1 ih2=>
  intro ms r
  obtain⟨m1,p1,r1⟩:=ih2 r
  obtain⟨m2,p2,r2⟩:=ih1 r1
  exact⟨m2,p2.trans p1,r2⟩
section
variable {prog:Program}{w:World}{A:Around}{E:Value→Shared→Prop}{s:Shared}
theorem Zgf {g:Bool→Sem Unit}(hg:∀(b:Bool) (s₁:Shared) (Q':Unit→Shared→Prop),Q' () s₁→wpAny (model prog w) A (g b) Q' E s₁){a:Addr}{o:Obj}{es:Array (Int×Value)}{ep:Nat}{t:SetTable}
  (ho:s.heap.get? a=some o) (hd:o.data=.set es ep t) {e1:Array (Int×Value)} {t2:SetTable} (hb:e1.size<scanBound) (hf:t2.fits e1.size=true) {wd:Bool} {R:Option Bool→Shared→Prop}
  (h:∀h' e2 t3 ep',Heap.SameBut a s.heap h'→h'.get? a=some { o with data:=.set e2 ep' t3 }→e2.toList.Perm e1.toList→t3.fits e2.size=true→t3.led=t2.led→(t3.plain=true→t2.plain=true)→R (some true) { s with heap:=h' }):
  wpAny (model prog w) A (do
   storeSet a e1 t2
   if (!wd&&t2.tooFull)=true then do
    g (relayAll t2 e1 (SetTable.grown e1.size)).2.2;storeSet a (relayAll t2 e1 (SetTable.grown e1.size)).1 (relayAll t2 e1 (SetTable.grown e1.size)).2.1;pure (some true)
   else pure (some true)) R E s:=by
 have put:∀ {h:Heap} {ob:Obj} {xs ys:Array (Int×Value)} {n:Nat} {t t':SetTable},h.get? a=some ob→ob.data=.set xs n t→(h.update a (Obj.putSet ys t')).get? a=some { ob with data:=.set ys (n+1) t' }:=fun {h ob xs ys n t t'} h1 h2=>by
  have q:=YBP (Obj.putSet ys t') h1 (by rw[putSet_of ys t' h2];rfl)
  rwa [putSet_of ys t' h2]at q
 have hs1:=YAd s.heap a (Obj.putSet e1 t2)
 have g1:=put (ys:=e1) (t':=t2) ho hd
 refine YAA (wpAny_storeSet_of ho hd ?_ (fits_of_scanBound hb))
 split
 ·have p:=relayAll_perm t2 e1 (SetTable.grown e1.size)
  have f:=relayAll_fits t2 e1 (SetTable.grown e1.size)
  have tm:=ZiS (t:=t2) (es:=e1) (n:=SetTable.grown e1.size)
  have z:(relayAll t2 e1 (SetTable.grown e1.size)).1.size=e1.size:=by rw[←YAN,p.length_eq,YAN]
  refine YAA (hg _ _ _ (YAA (wpAny_storeSet_of g1 rfl (YAD ?_) (fits_of_scanBound (by rw[z];exact hb)))))
  exact h _ _ _ _ (hs1.trans (YAd _ a _)) (put (ob:={ o with data:=.set e1 (ep+1) t2 }) g1 rfl) p f tm.1 tm.2
 ·exact YAD (h _ _ _ _ hs1 g1 (.refl _) hf rfl id)
theorem ZkF {a:Addr}{ls:List (List Nat)}{led:Bool}{l:List Nat}{tk:Tok}{Q:Bool→Shared→Prop}(hS:TxSet prog w s.heap a ls led)(hn:ls.length+1<scanBound)
  (h:∀h' b,Heap.SameBut a s.heap h'→TxSet prog w h' a (addT ls l) led→Q b { s with heap:=h' }):
  wpAny (model prog w) A (setAddHashed a (.str ⟨l.toArray⟩ tk) (keyH w (Sum.inr ⟨l.toArray⟩))) Q E s:=by
 obtain⟨o,es,ep,t,ms,ho,hex,hd,hel,hf,hled,hpl,hp,hv,hb⟩:=hS
 have hkey:(ZaI prog w).is (Sum.inr (⟨l.toArray⟩:Str)) (.str ⟨l.toArray⟩ tk)=true:=by
  exact Zdp prog w _ _
 have hsc:(Value.str ⟨l.toArray⟩ tk).scannable=true:=rfl
 have hlen:es.size=ls.length:=by
  have q:=hv.length
  rw[YAE,YAE]at q
  rw[←YAN,←q,hp.length_eq]
 have mem:=Zf8 (l:=l) hv
 have hl:l∈ms↔l∈ls:=hp.mem_iff
 unfold setAddHashed setAddHashedIn
 refine YBU (YAA (YCe ho hd hf ?_))
 dsimp only
 rw[byScan_of hsc hb hel,YAO rfl]
 unfold setAddByScan
 refine YAA (YAA (YBo (YAA (wpAny_setScan_of (knd:=ZaI prog w) (k:=Sum.inr (⟨l.toArray⟩:Str)) hkey ho hd hf hel ?_))))
 cases hr:List.findIdx? (fun e=>(ZaI prog w).is (Sum.inr (⟨l.toArray⟩:Str)) e.2) es.toList with
 | some j=>
  dsimp only
  obtain⟨hj,hpj,_⟩:=List.findIdx?_eq_some_iff_getElem.mp hr
  have hin:l∈ls:=hl.mp (mem.mp ⟨es.toList[j],YBh hj,hpj⟩)
  refine YAD (YAD ?_)
  have q:=h s.heap false (Heap.SameBut.refl a s.heap) (by
   unfold addT
   rw[YAO hin]
   exact⟨o,es,ep,t,ms,ho,hex,hd,hel,hf,hled,hpl,hp,hv,hb⟩)
  exact q
 | none=>
  dsimp only
  have hnin:l∉ls:=fun z=>by
   obtain⟨e,he,hk⟩:=mem.mpr (hl.mpr z)
   have q:=List.findIdx?_eq_none_iff.mp hr e he
   rw[show (ZaI prog w).is (Sum.inr (⟨l.toArray⟩:Str)) e.2=true from hk]at q
   cases q
  have lp:=layNew_perm t es (keyH w (Sum.inr ⟨l.toArray⟩)) (.str ⟨l.toArray⟩ tk)
  have lf:=layNew_fits t es (keyH w (Sum.inr ⟨l.toArray⟩)) (.str ⟨l.toArray⟩ tk)
  have lt:=ZlO (t:=t) (es:=es) (h:=keyH w (Sum.inr ⟨l.toArray⟩)) (x:=.str ⟨l.toArray⟩ tk)
  show wpAny _ A (match layNew t es (keyH w (Sum.inr ⟨l.toArray⟩)) (.str ⟨l.toArray⟩ tk) with | (es,t,wasDummy,gave)=>_) _ _ _
  generalize hL:layNew t es (keyH w (Sum.inr ⟨l.toArray⟩)) (.str ⟨l.toArray⟩ tk)=L at lp lf lt ⊢
  obtain⟨e1,t1,wd,gave⟩:=L
  dsimp only at lp lf lt ⊢
  rw[YBW]at lp
  have sz1:e1.size=ls.length+1:=by rw[←YAN,lp.length_eq,YAF,YAN,hlen];rfl
  have gw:∀(b:Bool) (s₁:Shared) (Q':Unit→Shared→Prop),Q' () s₁→wpAny (model prog w) A (match b with | true=>rule "set.scan.the-table-gave-way" | false=>pure ()) Q' E s₁:=
   fun b s₁ Q' hq=>by cases b<;>first | exact YAD hq | exact YBo hq
  refine YAA (gw _ _ _ ?_)
  have fin:∀(t2:SetTable),t2.fits e1.size=true→t2.led=t1.led→t2.plain=false→∀h' e2 t3 ep',Heap.SameBut a s.heap h'→h'.get? a=some { o with data:=.set e2 ep' t3 }→e2.toList.Perm e1.toList→t3.fits e2.size=true→t3.led=t2.led→(t3.plain=true→t2.plain=true)→Q true { s with heap:=h' }:=by
   intro t2 f2 l2 p2 h' e2 t3 ep' sb hg pm f3 l3 p3
   refine h h' true sb ?_
   have pall:=pm.trans lp
   obtain⟨ms',pm',hv'⟩:=Zdc (us:=(es.toList++[(keyH w (Sum.inr ⟨l.toArray⟩),Value.str ⟨l.toArray⟩ tk)]).map (·.2)) (us':=e2.toList.map (·.2)) (pall.map _) (ms:=ms++[l]) (by
    rw[YCM,YCM]
    exact hv.append (.cons ⟨tk,rfl⟩ .nil))
   unfold addT
   rw[YAJ hnin]
   refine⟨_,e2,ep',t3,ms',hg,hex,rfl,((hel.push (knd:=ZaI prog w) hkey hsc).perm pall),f3,l3.trans (l2.trans (lt.1.trans hled)),fun z=>by rw[p2]at p3;exact absurd (p3 z) YAC,pm'.trans (hp.append_right [l]),hv',?_⟩
   rw[←YAN,pm.length_eq,YAN,sz1]
   exact hn
  split
  ·refine YAA ?_
   rw[hashByValue_scannable 8 hsc]
   refine YAD ?_
   refine Zgf gw ho hd (by rw[sz1];exact hn) ?_ fun h' e2 t3 ep' q1 q2 q3 q4 q5 q6=>?_
   ·exact SetTable.fits_plain_off lf
   ·exact YAD (fin _ (SetTable.fits_plain_off lf) rfl rfl h' e2 t3 ep' q1 q2 q3 q4 q5 q6)
  ·rename_i hnp
   have hnp':t1.plain=false:=by simpa using hnp
   refine YAA (YAD ?_)
   rw[YAO rfl]
   refine Zgf gw ho hd (by rw[sz1];exact hn) lf fun h' e2 t3 ep' q1 q2 q3 q4 q5 q6=>YAD (fin _ lf rfl hnp' h' e2 t3 ep' q1 q2 q3 q4 q5 q6)
end
noncomputable def dd (val:Nat→List Nat)(i:Nat):List (List Nat):=((List.range i).map val).foldl addT []
theorem ZfX {val:Nat→List Nat}{i:Nat}:dd val (i+1)=addT (dd val i) (val i):=by
 unfold dd
 rw[YBq,YCM,List.foldl_append]
 rfl
theorem ZjK {ls:List (List Nat)}{l:List Nat}:(addT ls l).length≤ls.length+1:=by
 unfold addT
 split
 ·omega
 ·simp
theorem Zkk {val:Nat→List Nat}:∀i,(dd val i).length≤i
 | 0=>YAQ _
 | i+1=>by
  rw[ZfX]
  have h1:=Zkk (val:=val) i
  have h2:=ZjK (ls:=dd val i) (l:=val i)
  omega
theorem ZcB {val:Nat→List Nat}:∀i,(dd val i).Nodup
 | 0=>by simp[dd]
 | i+1=>by
  rw[ZfX]
  unfold addT
  split
  ·exact ZcB i
  ·rename_i h
   rw[YDB]
   refine⟨ZcB i,by simp,?_⟩
   intro a ha b hb e
   have:b=val i:=by simpa using hb
   subst e this
   exact h ha
section
variable {prog:Program}{w:World}{A:Around}{R:Result→Shared→Prop}{I:Addr}{fp wr:List Addr}{G:Array GenState→Array GenState→Prop}{n:Nat}{Pi:Nat→Value→Prop}{St:Nat→Shared→Prop}
theorem ZiZ (W:WalksS prog w A.in1 I fp wr G n Pi St)(S:Addr)(hSf:S∉fp)(val:Nat→List Nat)(hval:∀i v,Pi i v→∃t,v=.str ⟨(val i).toArray⟩ t)(hb:n+1<scanBound){led:Bool}:
  ∀(k i:Nat) (s:Shared),n-i=k→i≤n→St i s→TxSet prog w s.heap S (dd val i) led→(∀s',Moved (S::wr) G s s'→TxSet prog w s'.heap S (dd val n) led→R (.ok (.ret .none)) s') →
   codeAny (model prog w) A (.builtin "set.update.loop" ⟨[.ref S,.ref I],[]⟩) R s:=by
 have nw:S∉wr:=fun h=>hSf (W.sub _ h)
 have up:∀b∈wr,b∈S::wr:=fun b hb=>YAW _ hb
 intro k
 induction k with
 | zero=>
  intro i s hk hi st hS hR
  have e:i=n:=by omega
  subst e
  refine codeAny_builtin F.entry_set_update_loop ?_
  rw[YCm F.plain_set_update_loop _]
  show wpAny _ A.in1 (pyNext (.ref I) >>= fun r=>_) _ _ s
  refine YAA (W.done s _ _ st fun s' hm=>?_)
  exact YAD (hR s' (hm.mono up) (hS.keep fun o e=>hm.heap S o nw e))
 | succ k ih=>
  intro i s hk hi st hS hR
  have hlt:i<n:=by omega
  refine codeAny_builtin F.entry_set_update_loop ?_
  rw[YCm F.plain_set_update_loop _]
  show wpAny _ A.in1 (pyNext (.ref I) >>= fun r=>_) _ _ s
  refine YAA (W.item i s _ _ hlt st fun v s1 hP st1 hm=>?_)
  obtain⟨tk,rfl⟩:=hval i v hP
  have hS1:TxSet prog w s1.heap S (dd val i) led:=hS.keep fun o e=>hm.heap S o nw e
  show wpAny _ A.in1 (holding [Value.str ⟨(val i).toArray⟩ tk] (setAdd S (.str ⟨(val i).toArray⟩ tk)) >>= fun _=>_) _ _ s1
  refine YAA (YBU ?_)
  unfold setAdd
  refine YBU (YAA (wpAny_pyHash_str ?_))
  refine ZkF (s:={ s1 with toks:=s1.toks+1 }) (l:=val i) hS1 (by have:=Zkk (val:=val) i;omega) fun h' b sb hS2=>?_
  rw[←ZfX]at hS2
  refine YAD ⟨plainId_quiet F.plain_set_update_loop _,ih (i+1) _ (by omega) hlt (W.frame _ s1 _ _ st1 (YCc _) fun b hb o e=>(sb.2 b fun z=>hSf (z▸hb)).trans e) hS2 fun s2 hm2 hS3=>?_⟩
  exact hR s2 (Moved.trans W.gtrans ((hm.mono up).then_heap (YCc _) fun b o hb e=>(sb.2 b fun z=>hb (z▸YAa)).trans e) hm2) hS3
end
theorem ZcE {i:Nat}{u:Value}:∀ {vs:List V} {us:List Value} ,Vals vs us→us[i]?=some u→∃v,vs[i]?=some v∧RelV v u:=by
 induction i with
 | zero=>
  intro vs us r e
  cases r with
  | nil=>cases e
  | cons r1 _=>cases e;exact⟨_,rfl,r1⟩
 | succ i ih=>
  intro vs us r e
  cases r with
  | nil=>cases e
  | cons _ r2=>exact ih r2 e
structure Walked (prog:Program)(w:World)(x:Value)(s:Shared)(T:String)(n:Nat)(val:Nat→List Nat):Prop where
 ty:∀s1:Shared,(∀b o,s.heap.get? b=some o→s1.heap.get? b=some o)→s1.TypeIs x T
 go:∀(A:Around) (s1:Shared) (Q:Value→Shared→Prop) (E:Value→Shared→Prop),A.handled=none→(∀b o,s.heap.get? b=some o→s1.heap.get? b=some o) →
  (∀(h2:Heap) (I:Addr) (fp wr:List Addr) (Pi:Nat→Value→Prop) (St:Nat→Heap→Prop),(∀A':Around,A'.handled=none→Walks prog w A' I fp wr n Pi St)→St 0 h2 →
   (∀b∈fp,b<s.heap.objs.size∨s1.heap.objs.size≤b)→(∀b∈wr,s1.heap.objs.size≤b)→(∀b o,s1.heap.get? b=some o→h2.get? b=some o)→(∀i v,Pi i v→∃t,v=.str ⟨(val i).toArray⟩ t)→Q (.ref I) { s1 with heap:=h2 }) →
  wpAny (model prog w) A (pyIter x) Q E s1
theorem ZfA {prog:Program}{w:World}{s:Shared}{l:Addr}{us:List Value}{ls:List (List Nat)}(hl:s.heap.IsList l us.toArray)(r:Vals (ls.map tx) us):Walked prog w (.ref l) s "list" ls.length (fun i=>ls.getD i []) where
 ty:=fun s1 k=>by
  obtain⟨o,ho,hc,_⟩:=hl
  exact⟨o,k _ _ ho,hc⟩
 go:=fun A s1 Q E hh k h=>by
  obtain⟨o,ho,hc,hr⟩:=id hl
  have hl1:s1.heap.IsList l us.toArray:=⟨o,k _ _ ho,hc,hr⟩
  have hlt:=YAH ho
  have hlt1:=YAH (k _ _ ho)
  have hlen:us.toArray.size=ls.length:=by rw[YAI,←r.length,YAE]
  refine YDA hl1 ?_
  have W:∀A':Around,A'.handled=none→Walks prog w A' s1.heap.objs.size [s1.heap.objs.size,l] [s1.heap.objs.size] ls.length (fun i v=>us.toArray[i]?=some v) (fun i h=>h.IsListIter s1.heap.objs.size l i∧h.IsList l us.toArray):=fun A' hA=>by
   have q:=Walks.list (prog:=prog) (w:=w) hA s1.heap.objs.size l (YAX hlt1) us.toArray
   rwa [hlen]at q
  refine h _ _ _ _ _ _ W ⟨⟨_,YAG _ rfl,rfl,rfl⟩,hl1.push _⟩ (fun b hb=>?_) (fun b hb=>?_) (fun b o e=>YAB _ e) (fun i v e=>?_)
  ·rcases YAK.mp hb with z | z
   ·exact .inr (YCO z.symm)
   ·have z:b=l:=by simpa using z
    rw[z];exact .inl hlt
  ·have z:b=s1.heap.objs.size:=by simpa using hb
   exact YCO z.symm
  ·have e':us[i]?=some v:=by simpa using e
   obtain⟨v',hv',rv⟩:=ZcE r e'
   rw[YAo]at hv'
   cases q:ls[i]? with
   | none=>rw[q]at hv';cases hv'
   | some m=>
    rw[q]at hv'
    cases hv'
    obtain⟨t,rfl⟩:=rv
    exact⟨t,by rw[YAU,q];rfl⟩
theorem Zfz {prog:Program}{w:World}{s:Shared}{l:List Nat}{t:Tok}:Walked prog w (.str ⟨l.toArray⟩ t) s "str" l.length (fun i=>[l.getD i 0]) where
 ty:=fun s1 _=>typeIs_str s1 _ _
 go:=fun A s1 Q E hh k h=>by
  have hlen:(⟨l.toArray⟩:Str).cps.size=l.length:=by show l.toArray.size=_;simp
  have item:∀(i:Nat) (v:Value),(∃c u,(⟨l.toArray⟩:Str).cps[i]?=some c∧v=.str ⟨#[c]⟩ u)→∃t,v=.str ⟨[l.getD i 0].toArray⟩ t:=by
   rintro i v ⟨c,u,e,rfl⟩
   have e':l[i]?=some c:=by simpa using e
   exact⟨u,by rw[YAU,e'];rfl⟩
  refine wpAny_pyIter_str fun o St W st=>?_
  rw[hlen]at W
  refine h _ _ _ _ _ _ W st (fun b hb=>.inr ?_) (fun b hb=>?_) (fun b o e=>YAB _ e) (fun i v ⟨c,u,e,e2⟩=>item i v ⟨c,u,e,e2⟩)
  ·have z:b=s1.heap.objs.size:=by simpa using hb
   exact YCO z.symm
  ·have z:b=s1.heap.objs.size:=by simpa using hb
   exact YCO z.symm
section
variable {prog:Program}{w:World}{A:Around}{E:Value→Shared→Prop}{s:Shared}
noncomputable abbrev Ze3 (led:Bool):Obj:={ cls:=.type "set",dict:=none,data:=.set #[] 0 (.fresh 0 0 led) }
theorem Zhu {h:Heap}{a:Addr}{led:Bool}(ho:h.get? a=some (Ze3 led)):TxSet prog w h a [] led:=
 ⟨_,#[],0,_,[],ho,⟨rfl,rfl,rfl⟩,rfl,fun e he=>by simp at he,rfl,rfl,fun _=>rfl,.refl _,.nil,by show 0<4096;decide⟩
noncomputable def Za7 (w:World):Bool:=w.params.followText "set-order"
theorem ZkD (a:Value){Q₁:Value→Shared→Prop}(h:Q₁ (.ref s.heap.objs.size) { s with heap:=s.heap.push (Ze3 (!Za7 w)) }):
  codeAny (model prog w) A (.call (.builtin "set.__new__") ⟨[.type "set",a],[]⟩) (wants Q₁ E) s:=by
 refine codeAny_of_tree ?_
 show wpAny _ A.in1 (checkBuiltinCall "set.__new__" ⟨[.type "set",a],[]⟩ >>= fun _=>again (.builtin "set.__new__" ⟨[.type "set",a],[]⟩)) _ _ s
 refine YAA (wpAny_of_eq (F.newCall_set_1 a) (YAD ⟨plainId_quiet F.plain_set_new _,codeAny_builtin F.entry_set_new ?_⟩))
 rw[YCm F.plain_set_new _]
 unfold Builtin.«set.__new__» Builtin.Frozenset.newClass
 have hsub:=sub_set_self
 obtain⟨hp,g,d,tk,os⟩:=s
 dsimp only
 wp_walk
 refine YCo (YAD ?_)
 dsimp only
 simp only[newObj]
 exact YAA (wpAny_alloc (YAD (YAD h)))
set_option maxHeartbeats 3200000 in
theorem Zgg {x:Value} {T:String} {n:Nat} {val:Nat→List Nat} {Q:Value→Shared→Prop} (hh:A.handled=none) (W:Walked prog w x s T n val) (t1:isSubtype (.type T) (.type "set")=pure false) (t2:isSubtype (.type T) (.type "frozenset")=pure false)
  (t3:(Value.type T == Value.type "dict")=false) (hb:n+1<scanBound)
  (h:∀(h':Heap) (tk:Nat),TxSet prog w h' s.heap.objs.size (dd val n) (!Za7 w)→(∀b o,s.heap.get? b=some o→h'.get? b=some o)→s.toks≤tk→Q (.ref s.heap.objs.size) { s with heap:=h',toks:=tk }):
  wpAny (model prog w) A (call (.type "set") [x]) Q E s:=by
 obtain⟨c,tl,hmro⟩:=F.called_set.mro
 have hmade:=F.called_set.made
 have hsub:=F.called_set.sub
 refine YBx (codeAny_of_tree ?_)
 show wpAny _ _ (callAny (.type "set") _) _ _ _
 refine YAD ⟨Code.quiet_builtin _ (by decide +kernel),codeAny_builtin F.entry_type_call ?_⟩
 rw[Around.under_plain (weight_type_call_type "set" [x] []) rfl]
 have h1:=F.called_set.notType
 have h2:=F.called_set.canCreate
 have hct:=F.typeCall_set_1 x
 repeat (any_goals (first | assumption | wp_step))
 refine codeAny_mono (ZkD x (E:=E) (Q₁:=fun ob s₁=>ob=.ref s.heap.objs.size∧s₁={ s with heap:=s.heap.push (Ze3 (!Za7 w)) }) ⟨rfl,rfl⟩) fun r s₁ hr=>?_
 cases r with
 | error e=>exact hr
 | ok fl=>
  cases fl with
  | ret ob=>
   obtain⟨rfl,rfl⟩:=hr
   have hS:(s.heap.push (Ze3 (!Za7 w))).get? s.heap.objs.size=some (Ze3 (!Za7 w)):=YAG _ rfl
   have hT:Shared.TypeIs { s with heap:=s.heap.push (Ze3 (!Za7 w)) } (.ref s.heap.objs.size) "set":=⟨_,hS,rfl⟩
   have hli:=F.called_set.init.lookup
   have hbi:=F.called_set.init.bind (.ref s.heap.objs.size)
   have keep1:∀b o,s.heap.get? b=some o→(s.heap.push (Ze3 (!Za7 w))).get? b=some o:=fun b o e=>YAB _ e
   repeat (any_goals (first | assumption | wp_step))
   refine codeAny_mono (codeAny_call_builtin (R:=wants (fun r s₂=>r=.none∧∃h' tk,s₂={ s with heap:=h',toks:=tk }∧TxSet prog w h' s.heap.objs.size (dd val n) (!Za7 w)∧(∀b o,s.heap.get? b=some o→h'.get? b=some o)∧s.toks≤tk) E)
    F.called_set.init.plain F.entry_set_init (check_set_init_1 hT ?_)) fun r₂ s₂ hr₂=>?_
   ·have hTx:=W.ty { s with heap:=s.heap.push (Ze3 (!Za7 w)) } keep1
    unfold Builtin.«set.__init__» noKeywords Builtin.Frozenset.updateFrom
    generalize hPI:pyIter=PI
    wp_walk
    subst hPI
    refine W.go _ _ _ _ (by simp[hh]) keep1 fun h2 I fp wr Pi St Wk st f1 f2 k2 hval=>?_
    refine YAA (wpAny_runValue ?_)
    have hSf:s.heap.objs.size∉fp:=fun z=>by
     rcases f1 _ z with q | q
     ·exact YAv _ q
     ·rw[YAs]at q;exact absurd q (Nat.not_succ_le_self _)
    refine ZiZ ((Wk A.in1.in1.in1 (by simp[hh])).toS) s.heap.objs.size hSf val hval hb (n-0) 0 _ (by omega) (YAz _) st (Zhu (k2 _ _ hS)) fun s' hm hS'=>?_
    obtain⟨h',g',d',tk',os'⟩:=s'
    have eg:g'=s.gens:=hm.gens
    have ed:d'=s.drawn:=hm.drawn
    have eo:os'=s.os:=hm.os
    have et:s.toks≤tk':=hm.toks
    subst eg ed eo
    refine YAD ?_
    refine YAD ⟨rfl,h',tk',rfl,hS',fun b o e=>?_,et⟩
    have hlt:=YAH e
    refine hm.heap b o (fun z=>?_) (k2 b o (keep1 b o e))
    rcases YAK.mp z with q | q
    ·rw[q]at hlt;exact YAv _ hlt
    ·have q2:=f2 b q
     rw[YAs]at q2
     exact absurd (YAj hlt (Nat.le_of_succ_le q2)) (YAv _)
   ·cases r₂ with
    | error e=>exact hr₂
    | ok fl₂=>
     cases fl₂ with
     | ret r=>
      obtain⟨rfl,h',tk,rfl,hS',hk',htk⟩:=hr₂
      repeat (any_goals (first | assumption | wp_step))
      exact h _ _ hS' hk' htk
     | _=>exact hr₂.elim
  | _=>exact hr.elim
end
theorem Zbn {α:Type}:∀(xs:List α) (i:Nat) (h:i<xs.length),(xs[i]::xs.eraseIdx i).Perm xs
 | x::xs,0,_=>.refl _
 | x::xs,i+1,h=>by
  have hi:i<xs.length:=by simpa using h
  have ih:=Zbn xs i hi
  show (xs[i]::x::xs.eraseIdx i).Perm (x::xs)
  exact(List.Perm.swap _ _ _).trans (ih.cons x)
section
variable {M:Model}{A:Around}{E:Value→Shared→Prop}{s:Shared}
theorem wp_choose' {src:Source}{n:Nat}{Q:Nat→Shared→Prop}(hn:n≠0)(h:∀i d,i<n→Q i { s with drawn:=d }):wpAny M A (choose src n) Q E s:=fun Γ p hΓ=>by
 unfold choose
 rw[Sem.wp_choose]
 exact⟨hn,h _ _ (Nat.mod_lt _ (Nat.pos_of_ne_zero hn))⟩
theorem ZcR {α:Type}:∀(n:Nat) (xs:List α) (s:Shared) (Q:List α→Shared→Prop),xs.length=n→(∀ys d,ys.Perm xs→Q ys { s with drawn:=d })→wpAny M A (drawOrder n xs) Q E s
 | 0,xs,s,Q,hl,h=>by
  have e:xs=[]:=YDG hl
  subst e
  unfold drawOrder
  exact YAD (h [] s.drawn (.refl _))
 | n+1,[],s,Q,hl,h=>by cases hl
 | n+1,x::xs,s,Q,hl,h=>by
  unfold drawOrder
  refine YAA (wp_choose' (by simp) fun i d hi=>?_)
  have e:(x::xs)[i]?=some (x::xs)[i]:=YAM hi
  rw[e]
  dsimp only
  refine YAA (ZcR n ((x::xs).eraseIdx i) _ _ ?_ fun ys d' p=>YAD ?_)
  ·rw[YDS hi,hl];rfl
  ·refine h _ d' ((List.Perm.cons _ p).trans ?_)
   exact Zbn _ _ hi
end
theorem ZdN:entryFor table "set.__iter__"=some Builtin.«frozenset.__iter__»:=entryFor_alias (id':="frozenset.__iter__") (by kernel_rfl) rfl (by decide +kernel) (by kernel_rfl)
theorem ZaB:Slot "set_iterator" "__next__" "set_iterator.__next__":=
 .of (owner:="set_iterator") (n:="__next__") (by rw[typeLookup_type,builtinLookup_eq_fast];kernel_rfl) (by decide +kernel) (by decide +kernel) (by decide +kernel)
  (by first | exact .inl (by decide +kernel) | exact .inr (by decide +kernel)) (by rw[isSubtype_type];kernel_rfl)
theorem Zbr:entryFor table "set_iterator.__next__"=some Builtin.«set_iterator.__next__»:=entryFor_of_fast (by kernel_rfl)
theorem ZbH (a:Value):argsOk "set_iterator.__next__" ⟨[a],[]⟩:=by unfold argsOk;kernel_rfl
section
variable {prog:Program}{w:World}{A:Around}{E:Value→Shared→Prop}{s:Shared}
def SetIt (h:Heap)(I S:Addr)(first:Value)(i n ep:Nat):Prop:=∃o,h.get? I=some o∧o.cls=.type "set_iterator"∧o.data=.fields #[first,.int i 0,.ref S,.int n 0,.int ep 0]
theorem Zlt {t:SetTable}{n:Nat}(hf:t.fits n=true):(t.place.size != n || decide (t.fill>t.mask))=false:=by
 simp only[SetTable.fits,YAR,beq_iff_eq,decide_eq_true_eq]at hf
 simp[hf.1,YDJ.mpr hf.2]
theorem Zju {S:Addr}{o:Obj}{es:Array (Int×Value)}{ep:Nat}{t:SetTable}{Q:Value→Shared→Prop}(ho:s.heap.get? S=some o)(hex:o.ExactSet)(hd:o.data=.set es ep t)(hf:t.fits es.size=true)(hz:es.size≤sizeLine)
  (h0:(Za7 w=true∨(t.plain=true∨es.size≤1))→Q (.ref s.heap.objs.size) { s with heap:=s.heap.push { cls:=.type "set_iterator",data:=.fields #[.int 0 0,.int 0 0,.ref S,.int es.size 0,.int ep 0] } })
  (h1:∀(ps:List Nat) (d:Drawn),ps.Perm (List.range es.size)→Q (.ref (s.heap.objs.size+1)) { s with drawn:=d,heap:=(Heap.push s.heap { cls:=.type "tuple",data:=.seq (ps.map (fun i=>Value.int ((i:Nat):Int) 0)).toArray }).push { cls:=.type "set_iterator",data:=.fields #[.ref s.heap.objs.size,.int 0 0,.ref S,.int es.size 0,.int ep 0] } }):wpAny (model prog w) A (pyIter (.ref S)) Q E s:=by
 have hT:s.TypeIs (.ref S) "set":=⟨o,ho,hex.1⟩
 refine wpAny_pyIter_slot hT F.slot_set_iter (YBg F.slot_set_iter hT ZdN ?_ (F.args_set_iter_1 _))
 unfold Builtin.«frozenset.__iter__» Builtin.Frozenset.sizeOf setDrawn setsByText
 wp_walk
 rw[hd]
 dsimp only
 rw[Zlt hf]
 rw[YAJ YAC]
 refine YAD (YAD (YAD ?_))
 refine YAA (YAA (YCe ho hd hf ?_))
 dsimp only
 refine YAA (YAA (YCo (YAD (YAD ?_))))
 show wpAny _ _ (if (!Za7 w&&(!t.plain&&decide (es.size>1)))=true then _ else _) _ _ _
 split
 ·refine YAA (ZcR es.size (List.range es.size) _ _ (by simp) fun ps d p=>?_)
  refine YAA ?_
  simp only[newTuple]
  refine YBY ?_ (by show (List.map _ ps).toArray.size≤sizeLine;rw[YAI,YAE,p.length_eq,YBV];exact hz)
  refine YAA (wpAny_setEpoch_of (YAB _ ho) hd hf (YAA (YBY (YAD ⟨_,rfl,"set_iterator",_,⟨_,YAG _ rfl,rfl⟩,ZaB.lookup,?_⟩))))
  have q:=h1 ps d p
  rw[YAs]
  exact q
 ·rename_i hb
  refine YAA (YAD ?_)
  refine YAA (wpAny_setEpoch_of ho hd hf (YAA (YBY (YAD ⟨_,rfl,"set_iterator",_,⟨_,YAG _ rfl,rfl⟩,ZaB.lookup,h0 ?_⟩))))
  cases h:Za7 w with
  | true=>exact .inl rfl
  | false=>
   refine .inr ?_
   cases h':t.plain with
   | true=>exact .inl rfl
   | false=>
    rw[h,h']at hb
    simp at hb
    exact .inr hb
end
section
variable {prog:Program}{w:World}{A:Around}{E:Value→Shared→Prop}{s:Shared}{I S:Addr}{o:Obj}{es:Array (Int×Value)}{ep i n:Nat}{t:SetTable}
theorem SetIt.typ {first:Value}(h:SetIt s.heap I S first i n ep):s.TypeIs (.ref I) "set_iterator":=let ⟨o,h1,h2,_⟩:=h;⟨o,h1,h2⟩
noncomputable abbrev ZnC (I S:Addr)(slot i ep:Nat):Sem PySem.Fin:=do
 match ←setNext S slot i ep with
 | some (x,next)=>do
  setField (.ref I) 0 (rawInt (next:Nat))
  setField (.ref I) 1 (rawInt ((i:Int)+1))
  ret x
 | none=>do
  setField (.ref I) 2 Value.none
  raiseNew (←newExc (Value.type "StopIteration") [])
noncomputable abbrev ZlC (I S:Addr)(first:Value)(i ep:Nat):Sem PySem.Fin:=do
 match ←seqItems? first with
 | some places=>match places[i]? with
  | some (.int place _)=>do
   let x ←setNextDrawn S place.toNat ep
   setField (.ref I) 1 (rawInt ((i:Int)+1))
   ret x
  | some _=>unsupported "internal:set_iterator"
  | none=>do
   setField (.ref I) 0 (rawInt 0)
   setField (.ref I) 2 Value.none
   raiseNew (←newExc (Value.type "StopIteration") [])
 | _=>unsupported "internal:set_iterator"
abbrev NxQ (prog:Program)(w:World)(A:Around)(Q:Option Value→Shared→Prop)(E:Value→Shared→Prop)(fin:PySem.Fin)(s':Shared):Prop:=∃v,fin=Fin.done (Flow.ret v)∧Q (some v) s'
abbrev NxE (prog:Program)(w:World)(A:Around)(Q:Option Value→Shared→Prop)(E:Value→Shared→Prop)(e:Value)(s':Shared):Prop:=
 wpAny (model prog w) A (do let b ←isInstance e (Value.type "StopIteration");if b=true then pure none else throw e) Q E s'
theorem Zct {slot:Nat}{Q:Option Value→Shared→Prop}(hi:SetIt s.heap I S (.int (slot:Nat) 0) i es.size ep)(ho:s.heap.get? S=some o)(hd:o.data=.set es ep t)(hf:t.fits es.size=true)
  (h:wpAny (model prog w) A.in1 (ZnC I S slot i ep) (NxQ prog w A Q E) (NxE prog w A Q E) s):wpAny (model prog w) A (pyNext (.ref I)) Q E s:=by
 obtain⟨oi,hoi,hci,hdi⟩:=id hi
 unfold pyNext
 refine YAA (YBz (wpAny_callSpecial?_slot (name:=Str.ofString "__next__") hi.typ ZaB (YBg ZaB hi.typ Zbr ?_ (ZbH _))))
 unfold Builtin.«set_iterator.__next__»
 wp_walk
 rw[hdi]
 dsimp only
 refine YAD ?_
 dsimp only
 refine YAA (wpAny_setEntries_of ho hd hf ?_)
 (try dsimp only)
 rw[YAJ (by simp)]
 refine YBF h (fun fin s' q=>?_) fun e s' q=>q
 obtain⟨v,rfl,q⟩:=q
 exact⟨v,rfl,YAD q⟩
theorem ZdX {tp:Addr}{Q:Option Value→Shared→Prop}(hi:SetIt s.heap I S (.ref tp) i es.size ep)(ho:s.heap.get? S=some o)(hd:o.data=.set es ep t)(hf:t.fits es.size=true)
  (h:wpAny (model prog w) A.in1 (ZlC I S (.ref tp) i ep) (NxQ prog w A Q E) (NxE prog w A Q E) s):wpAny (model prog w) A (pyNext (.ref I)) Q E s:=by
 obtain⟨oi,hoi,hci,hdi⟩:=id hi
 unfold pyNext
 refine YAA (YBz (wpAny_callSpecial?_slot (name:=Str.ofString "__next__") hi.typ ZaB (YBg ZaB hi.typ Zbr ?_ (ZbH _))))
 unfold Builtin.«set_iterator.__next__»
 wp_walk
 rw[hdi]
 dsimp only
 refine YAD ?_
 dsimp only
 refine YAA (wpAny_setEntries_of ho hd hf ?_)
 (try dsimp only)
 rw[YAJ (by simp)]
 refine YBF h (fun fin s' q=>?_) fun e s' q=>q
 obtain⟨v,rfl,q⟩:=q
 exact⟨v,rfl,YAD q⟩
theorem ZfD {Q:Option Value→Shared→Prop}(hh:A.handled=none)(hQ:∀h',(∀b o,s.heap.get? b=some o→h'.get? b=some o)→Q none { s with heap:=h' }):
  wpAny (model prog w) A.in1 (do raiseNew (←newExc (Value.type "StopIteration") [])) (NxQ prog w A Q E) (NxE prog w A Q E) s:=by
 refine YAA ?_
 simp only[newExc,newTuple]
 refine YAA (YBY ?_ (by size_fits))
 refine YAA (m:=firstArgMember _ _) (wpAny_of_eq (a:=Value.none) (by first | rfl | (simp only[firstArgMember];rfl)) ?_)
 refine YBY ?_ (by size_fits)
 simp only[raiseNew]
 refine YAA (wpAny_handled ?_)
 rw[show A.in1.handled=none from hh]
 refine YAA (YAD (wpAny_throw ?_))
 refine YAA (wpAny_isInstance (T:="StopIteration") (b:=true) ⟨_,YAG _ rfl,rfl⟩ isSubtype_stop ?_)
 exact YAD (hQ _ fun b o e=>YAB _ (YAB _ e))
theorem ZdY {h:Heap} {v:Value} {k:Nat} {oi:Obj} {vs:Array Value} (hoi:h.get? I=some oi) (hci:oi.cls=.type "set_iterator") (hdi:oi.data=.fields vs):
  ∃o',(h.update I (Obj.mapFields (·.setIfInBounds k v))).get? I=some o'∧o'.cls=.type "set_iterator"∧o'.data=.fields (vs.setIfInBounds k v):=
 ⟨_,YBP _ hoi (YDD (YCA hdi _)),(Obj.cls_mapFields ..).trans hci,YCA hdi _⟩
theorem Zdh {slot:Nat}{Q:Option (Value×Nat)→Shared→Prop}(ho:s.heap.get? S=some o)(hd:o.data=.set es ep t)(hf:t.fits es.size=true)(hb:Za7 w=true)
  (h:Q (((pickOrder (w.params.setOrder S ep) es)[i]?).map fun e=>(e.2,slot)) s):wpAny (model prog w) A (setNext S slot i ep) Q E s:=by
 unfold setNext
 refine YAA (YCe ho hd hf ?_)
 dsimp only
 unfold setsByText
 refine YAA (YAA (YCo (YAD ?_)))
 show wpAny _ _ (if Za7 w=true then _ else _) _ _ _
 rw[hb,YAO rfl,YAJ (by simp)]
 unfold setWalk
 refine YAA (YAA (YCe ho hd hf ?_))
 dsimp only
 unfold setsByText
 refine YAA (YAA (YCo (YAD ?_)))
 show wpAny _ _ (if Za7 w=true then _ else _) _ _ _
 rw[hb,YAO rfl]
 exact YAA (YCo (YAD (YAD h)))
theorem Zdi {slot:Nat}{Q:Option (Value×Nat)→Shared→Prop}(ho:s.heap.get? S=some o)(hd:o.data=.set es ep t)(hf:t.fits es.size=true)(hb:Za7 w=false)(hl:t.led=true)(h1:es.size≤1)
  (h:Q (match es[SetTable.below t.place slot]?,t.place[SetTable.below t.place slot]? with | some (_,x),some j=>some (x,j+1) | _,_=>none) s):wpAny (model prog w) A (setNext S slot i ep) Q E s:=by
 unfold setNext
 refine YAA (YCe ho hd hf ?_)
 dsimp only
 unfold setsByText
 refine YAA (YAA (YCo (YAD ?_)))
 show wpAny _ _ (if Za7 w=true then _ else (if (!t.plain&&decide (es.size>1))=true then _ else _)) _ _ _
 have hn:¬es.size>1:=by omega
 rw[hb,YAJ YAC,decide_eq_false hn,YCU,YAJ YAC]
 show wpAny _ _ ((if (!t.led&&!es.isEmpty)=true then (do let _ ←(unsupported "set:maker-not-led":Sem Unit);pure ()) else pure ()) >>= fun _=>_) _ _ _
 rw[hl,Bool.not_true,YBc,YAJ YAC]
 exact YAA (YAD (YAD h))
end
theorem ZeT {α:Type}{next:Nat→Nat}:∀(fuel k:Nat) (left:List α) (out:Array α),left.length=fuel→(pickOrder.go next fuel k left out).toList.Perm (out.toList++left)
 | 0,k,left,out,h=>by
  have e:left=[]:=YDG h
  subst e
  unfold pickOrder.go
  simp
 | fuel+1,k,left,out,h=>by
  have hlt:next k % left.length<left.length:=Nat.mod_lt _ (by omega)
  unfold pickOrder.go
  rw[YAM hlt]
  dsimp only
  refine(ZeT fuel (k+1) _ _ (by rw[YDS hlt,h];rfl)).trans ?_
  rw[YBW,YAh]
  exact(Zbn left _ hlt).append_left _
theorem Zbs {α:Type}{next:Nat→Nat}{xs:Array α}:(pickOrder next xs).toList.Perm xs.toList:=by
 unfold pickOrder
 have:=ZeT (next:=next) xs.size 0 xs.toList #[] (by simp)
 simpa using this
theorem Zby:Slot "set_iterator" "__iter__" "set_iterator.__iter__":=
 .of (owner:="set_iterator") (n:="__iter__") (by rw[typeLookup_type,builtinLookup_eq_fast];kernel_rfl) (by decide +kernel) (by decide +kernel) (by decide +kernel) (by first | exact .inl (by decide +kernel) | exact .inr (by decide +kernel)) (by rw[isSubtype_type];kernel_rfl)
theorem Zcz:entryFor table "set_iterator.__iter__"=some Builtin.«dict_keyiterator.__iter__»:=entryFor_alias (id':="dict_keyiterator.__iter__") (by kernel_rfl) rfl (by decide +kernel) (by kernel_rfl)
theorem ZcO (a:Value):argsOk "set_iterator.__iter__" ⟨[a],[]⟩:=by unfold argsOk;kernel_rfl
section
variable {prog:Program}{w:World}{A:Around}{E:Value→Shared→Prop}{s:Shared}{I S:Addr}{o:Obj}{es:Array (Int×Value)}{ep i n:Nat}{t:SetTable}
theorem Zdv {first:Value}{Q:Value→Shared→Prop}(hi:SetIt s.heap I S first i n ep)(h:Q (.ref I) s):wpAny (model prog w) A (pyIter (.ref I)) Q E s:=by
 refine wpAny_pyIter_slot hi.typ Zby (YBg Zby hi.typ Zcz ?_ (ZcO _))
 show wpAny _ _ (ret (.ref I)) _ _ s
 exact YAD ⟨_,rfl,"set_iterator",_,hi.typ,ZaB.lookup,h⟩
theorem Zb4 {h h':Heap}{o:Obj}(sb:Heap.SameBut I h h')(hne:S≠I)(ho:h.get? S=some o):h'.get? S=some o:=(sb.2 S hne).trans ho
theorem Zhr (hh:A.handled=none)(hne:S≠I)(hd:o.data=.set es ep t)(hf:t.fits es.size=true)(hb:Za7 w=true):
  Walks prog w A I [I,S] [I] es.size (fun i v=>(((pickOrder (w.params.setOrder S ep) es).toList).map (·.2))[i]?=some v) (fun i h=>SetIt h I S (.int ((0:Nat):Int) 0) i es.size ep∧h.get? S=some o) where
 sub:=fun b hb=>by simp at hb;simp[hb]
 frame:=fun i h h' ⟨⟨oi,h1,r⟩,h2⟩ hk=>⟨⟨oi,hk I (by simp) _ h1,r⟩,hk S (by simp) _ h2⟩
 item:=fun i s Q E hi ⟨st,ho⟩ hQ=>by
  have hl:(pickOrder (w.params.setOrder S ep) es).size=es.size:=by rw[←YAN,Zbs.length_eq,YAN]
  have he:(pickOrder (w.params.setOrder S ep) es)[i]?=some (pickOrder (w.params.setOrder S ep) es)[i]:=by simp[hl,hi]
  refine Zct st ho hd hf (YAA (Zdh ho hd hf hb ?_))
  rw[he]
  dsimp only[Option.map_some]
  obtain⟨oi,g1,g2,g3⟩:=id st
  refine YAA (YBR g1 g3 (by simp) ?_)
  obtain⟨o1,k1,k2,k3⟩:=ZdY (v:=rawInt ((0:Nat):Int)) (k:=0) g1 g2 g3
  refine YAA (YBR k1 k3 (by simp) ?_)
  obtain⟨o2,m1,m2,m3⟩:=ZdY (v:=rawInt ((i:Int)+1)) (k:=1) k1 k2 k3
  have sb:=(YAd s.heap I (Obj.mapFields (·.setIfInBounds 0 (rawInt ((0:Nat):Int))))).trans (YAd _ I (Obj.mapFields (·.setIfInBounds 1 (rawInt ((i:Int)+1)))))
  refine YAD ⟨_,rfl,hQ _ _ s.toks ?_ ⟨⟨o2,m1,m2,?_⟩,Zb4 sb hne ho⟩ fun b o hb e=>(sb.2 b (by simpa using hb)).trans e⟩
  ·rw[YAo,YAl,he];rfl
  ·rw[m3];simp[rawInt]
 done:=fun s Q E ⟨st,ho⟩ hQ=>by
  have hl:(pickOrder (w.params.setOrder S ep) es).size=es.size:=by rw[←YAN,Zbs.length_eq,YAN]
  have he:(pickOrder (w.params.setOrder S ep) es)[es.size]?=none:=by simp[hl]
  refine Zct st ho hd hf (YAA (Zdh ho hd hf hb ?_))
  rw[he]
  dsimp only[Option.map_none]
  obtain⟨oi,g1,g2,g3⟩:=id st
  refine YAA (YBR g1 g3 (by simp) ?_)
  have sb:=YAd s.heap I (Obj.mapFields (·.setIfInBounds 2 Value.none))
  exact ZfD (A:=A) hh fun h' k=>hQ h' s.toks fun b o hb e=>k b o ((sb.2 b (by simpa using hb)).trans e)
 self:=fun i s Q E ⟨st,_⟩ hQ=>Zdv st hQ
noncomputable def ZcG (t:SetTable)(i:Nat):Nat:=if i=0 then 0 else t.place.getD 0 0+1
theorem Zhn {xs:Array Nat}:SetTable.below xs 0=0:=by
 unfold SetTable.below
 have all:∀fuel hi,SetTable.below.go xs 0 fuel 0 hi=0:=by
  intro fuel
  induction fuel with
  | zero=>intro hi;unfold SetTable.below.go;rfl
  | succ f ih=>
   intro hi
   unfold SetTable.below.go
   split
   ·rw[YAJ (Nat.not_lt_zero _)];exact ih _
   ·rfl
 exact all _ _
theorem ZiJ {j:Nat}:SetTable.below #[j] (j+1)=1:=by
 unfold SetTable.below
 show SetTable.below.go #[j] (j+1) 1 0 1=1
 unfold SetTable.below.go
 simp[SetTable.below.go]
theorem Zmv {xs:Array Nat}(h:xs.size=1):∃j,xs=#[j]:=by
 obtain⟨l⟩:=xs
 match l,h with
 | [j],_=>exact⟨j,rfl⟩
theorem Zhs (hh:A.handled=none)(hne:S≠I)(hd:o.data=.set es ep t)(hf:t.fits es.size=true)(hb:Za7 w=false)(hl:t.led=true)(h1:es.size≤1):
  Walks prog w A I [I,S] [I] es.size (fun i v=>(es.toList.map (·.2))[i]?=some v) (fun i h=>SetIt h I S (.int ((ZcG t i:Nat):Int) 0) i es.size ep∧h.get? S=some o) where
 sub:=fun b hb=>by simp at hb;simp[hb]
 frame:=fun i h h' ⟨⟨oi,h1,r⟩,h2⟩ hk=>⟨⟨oi,hk I (by simp) _ h1,r⟩,hk S (by simp) _ h2⟩
 item:=fun i s Q E hi ⟨st,ho⟩ hQ=>by
  have i0:i=0:=by omega
  subst i0
  have ps:t.place.size=es.size:=by
   have:=hf
   simp only[SetTable.fits,YAR,beq_iff_eq]at this
   exact this.1
  have he:es[0]?=some es[0]:=by simp[hi]
  have hp:t.place[0]?=some (t.place.getD 0 0):=by
   have:0<t.place.size:=by omega
   simp[this]
  refine Zct st ho hd hf (YAA (Zdi ho hd hf hb hl h1 ?_))
  rw[show ZcG t 0=0 from rfl,Zhn,he,hp]
  dsimp only
  obtain⟨oi,g1,g2,g3⟩:=id st
  refine YAA (YBR g1 g3 (by simp) ?_)
  obtain⟨o1,k1,k2,k3⟩:=ZdY (v:=rawInt ((t.place.getD 0 0+1:Nat):Int)) (k:=0) g1 g2 g3
  refine YAA (YBR k1 k3 (by simp) ?_)
  obtain⟨o2,m1,m2,m3⟩:=ZdY (v:=rawInt (((0:Nat):Int)+1)) (k:=1) k1 k2 k3
  have sb:=(YAd s.heap I (Obj.mapFields (·.setIfInBounds 0 (rawInt ((t.place.getD 0 0+1:Nat):Int))))).trans (YAd _ I (Obj.mapFields (·.setIfInBounds 1 (rawInt (((0:Nat):Int)+1)))))
  refine YAD ⟨_,rfl,hQ _ _ s.toks ?_ ⟨⟨o2,m1,m2,?_⟩,Zb4 sb hne ho⟩ fun b o hb e=>(sb.2 b (by simpa using hb)).trans e⟩
  ·rw[YAo,YAl,he];rfl
  ·rw[m3];simp[rawInt,ZcG]
 done:=fun s Q E ⟨st,ho⟩ hQ=>by
  have ps:t.place.size=es.size:=by
   have:=hf
   simp only[SetTable.fits,YAR,beq_iff_eq]at this
   exact this.1
  have hn:es[SetTable.below t.place (ZcG t es.size)]?=none:=by
   have hz:es.size=0∨es.size=1:=by omega
   rcases hz with z | z
   ·simp[z]
   ·have e1:∃j,t.place=#[j]:=by
     have:t.place.size=1:=by omega
     exact Zmv this
    obtain⟨j,ej⟩:=e1
    have:ZcG t es.size=j+1:=by unfold ZcG;rw[YAJ (by omega),ej];rfl
    rw[this,ej,ZiJ]
    simp[z]
  refine Zct st ho hd hf (YAA (Zdi ho hd hf hb hl h1 ?_))
  rw[hn]
  dsimp only
  obtain⟨oi,g1,g2,g3⟩:=id st
  refine YAA (YBR g1 g3 (by simp) ?_)
  have sb:=YAd s.heap I (Obj.mapFields (·.setIfInBounds 2 Value.none))
  exact ZfD (A:=A) hh fun h' k=>hQ h' s.toks fun b o hb e=>k b o ((sb.2 b (by simpa using hb)).trans e)
 self:=fun i s Q E ⟨st,_⟩ hQ=>Zdv st hQ
theorem Zg4 {p:Nat}{e:Int×Value}{Q:Value→Shared→Prop}(ho:s.heap.get? S=some o)(hd:o.data=.set es ep t)(hf:t.fits es.size=true)(he:es[p]?=some e)(h:Q e.2 s):wpAny (model prog w) A (setNextDrawn S p ep) Q E s:=by
 unfold setNextDrawn
 refine YAA (YCe ho hd hf ?_)
 dsimp only
 rw[YAJ (by simp),he]
 exact YAD h
theorem Zfy {tp:Addr}{ps:List Nat}(hh:A.handled=none)(hne:S≠I)(hnt:tp≠I)(hd:o.data=.set es ep t)(hf:t.fits es.size=true)(hp:ps.Perm (List.range es.size)):
  Walks prog w A I [I,S,tp] [I] es.size (fun i v=>(ps.map fun p=>(es.getD p (0,.none)).2)[i]?=some v) (fun i h=>SetIt h I S (.ref tp) i es.size ep∧h.get? S=some o∧h.get? tp=some { cls:=.type "tuple",data:=.seq (ps.map (fun i=>Value.int ((i:Nat):Int) 0)).toArray }) where
 sub:=fun b hb=>by simp at hb;simp[hb]
 frame:=fun i h h' ⟨⟨oi,h1,r⟩,h2,h3⟩ hk=>⟨⟨oi,hk I (by simp) _ h1,r⟩,hk S (by simp) _ h2,hk tp (by simp) _ h3⟩
 item:=fun i s Q E hi ⟨st,ho,ht⟩ hQ=>by
  have hl:ps.length=es.size:=by rw[hp.length_eq,YBV]
  have hi':i<ps.length:=by omega
  have hpi:ps[i]?=some ps[i]:=YAM hi'
  have hlt:ps[i]<es.size:=YBA.mp (hp.mem_iff.mp (YBh hi'))
  have he:es[ps[i]]?=some es[ps[i]]:=by simp[hlt]
  refine ZdX st ho hd hf (YAA (YCE ht rfl ?_))
  dsimp only
  have hx:((ps.map (fun i=>Value.int ((i:Nat):Int) 0)).toArray)[i]?=some (Value.int ((ps[i]:Nat):Int) 0):=by simp[hpi]
  rw[hx]
  dsimp only
  refine YAA (Zg4 ho hd hf he ?_)
  obtain⟨oi,g1,g2,g3⟩:=id st
  refine YAA (YBR g1 g3 (by simp) ?_)
  obtain⟨o2,m1,m2,m3⟩:=ZdY (v:=rawInt ((i:Int)+1)) (k:=1) g1 g2 g3
  have sb:=YAd s.heap I (Obj.mapFields (·.setIfInBounds 1 (rawInt ((i:Int)+1))))
  refine YAD ⟨_,rfl,hQ _ _ s.toks ?_ ⟨⟨o2,m1,m2,?_⟩,Zb4 sb hne ho,Zb4 sb hnt ht⟩ fun b o hb e=>(sb.2 b (by simpa using hb)).trans e⟩
  ·rw[YAo,hpi];simp[hlt]
  ·rw[m3];simp[rawInt]
 done:=fun s Q E ⟨st,ho,ht⟩ hQ=>by
  have hl:ps.length=es.size:=by rw[hp.length_eq,YBV]
  refine ZdX st ho hd hf (YAA (YCE ht rfl ?_))
  dsimp only
  have hx:((ps.map (fun i=>Value.int ((i:Nat):Int) 0)).toArray)[es.size]?=none:=by simp[hl]
  rw[hx]
  dsimp only
  obtain⟨oi,g1,g2,g3⟩:=id st
  refine YAA (YBR g1 g3 (by simp) ?_)
  obtain⟨o1,k1,k2,k3⟩:=ZdY (v:=rawInt 0) (k:=0) g1 g2 g3
  refine YAA (YBR k1 k3 (by simp) ?_)
  have sb:=(YAd s.heap I (Obj.mapFields (·.setIfInBounds 0 (rawInt 0)))).trans (YAd _ I (Obj.mapFields (·.setIfInBounds 2 Value.none)))
  exact ZfD (A:=A) hh fun h' k=>hQ h' s.toks fun b o hb e=>k b o ((sb.2 b (by simpa using hb)).trans e)
 self:=fun i s Q E ⟨st,_⟩ hQ=>Zdv st hQ
end
theorem Zfg:typeLookup (.type "set") "__len__"=pure (some (.builtin "set.__len__")):=by rw[typeLookup_type,builtinLookup_eq_fast];kernel_rfl
section
variable {prog:Program}{w:World}{A:Around}{E:Value→Shared→Prop}{s:Shared}
theorem ZgN {es:Array (Int×Value)}{ps:List Nat}(hp:ps.Perm (List.range es.size)):(ps.map fun p=>(es.getD p (0,.none)).2).Perm (es.toList.map (·.2)):=by
 have q:=hp.map (fun p=>(es.getD p (0,.none)).2)
 refine q.trans (.of_eq ?_)
 apply YCq
 ·simp
 ·intro n h1 h2
  have hn:n<es.size:=by simpa using h2
  simp[hn]
theorem Zhd {S:Addr}{ls:List (List Nat)}{Q:Value→Shared→Prop}(hS:TxSet prog w s.heap S ls (!Za7 w))
  (h:∀(h2:Heap) (d:Drawn) (I:Addr) (fp:List Addr) (vs:List Value) (ms:List (List Nat)) (St:Nat→Heap→Prop),(∀A':Around,A'.handled=none→Walks prog w A' I fp [I] ls.length (fun i v=>vs[i]?=some v) St)→St 0 h2 →
   (∀b∈fp,b=S∨s.heap.objs.size≤b)→s.heap.objs.size≤I→(∀b o,s.heap.get? b=some o→h2.get? b=some o)→ms.Perm ls→Vals (ms.map tx) vs→Q (.ref I) { s with heap:=h2,drawn:=d }):
  wpAny (model prog w) A (pyIter (.ref S)) Q E s:=by
 obtain⟨o,es,ep,t,ms,ho,hex,hd,hel,hf,hled,hpl,hp,hv,hb⟩:=hS
 have hlen:es.size=ls.length:=by
  have q:=hv.length
  rw[YAE,YAE]at q
  rw[←YAN,←q,hp.length_eq]
 have hlt:=YAH ho
 refine Zju ho hex hd hf (fits_of_scanBound hb) (fun hc=>?_) fun ps d pp=>?_
 ·have nI:S≠s.heap.objs.size:=YAX hlt
  have st:(s.heap.push ({ cls:=.type "set_iterator",data:=.fields #[.int 0 0,.int 0 0,.ref S,.int es.size 0,.int ep 0] }:Obj)).get? s.heap.objs.size=some { cls:=.type "set_iterator",data:=.fields #[.int 0 0,.int 0 0,.ref S,.int es.size 0,.int ep 0] }:=YAG _ rfl
  have fp:∀b∈[s.heap.objs.size,S],b=S∨s.heap.objs.size≤b:=fun b hb=>by
   rcases YAK.mp hb with z | z
   ·exact .inr (YCO z.symm)
   ·exact .inl (by simpa using z)
  cases hby:Za7 w with
  | true=>
   obtain⟨ms',p',r'⟩:=Zdc ((Zbs (next:=w.params.setOrder S ep) (xs:=es)).map (·.2)) hv
   have W:∀A':Around,A'.handled=none→_:=fun A' hA=>Zhr (prog:=prog) (w:=w) (A:=A') (I:=s.heap.objs.size) (S:=S) (o:=o) hA nI hd hf hby
   rw[hlen]at W
   exact h _ s.drawn _ _ _ ms' _ W ⟨⟨_,st,rfl,by rw[hlen];rfl⟩,YAB _ ho⟩ fp (YAQ _) (fun b o e=>YAB _ e) (p'.trans hp) r'
  | false=>
   have h1:es.size≤1:=by
    rcases hc with z | z | z
    ·rw[hby]at z;cases z
    ·rw[hpl z];exact YAz _
    ·exact z
   have hl:t.led=true:=by rw[hled,hby];rfl
   have W:∀A':Around,A'.handled=none→_:=fun A' hA=>Zhs (prog:=prog) (w:=w) (A:=A') (I:=s.heap.objs.size) (S:=S) (o:=o) hA nI hd hf hby hl h1
   rw[hlen]at W
   exact h _ s.drawn _ _ _ ms _ W ⟨⟨_,st,rfl,by rw[hlen];rfl⟩,YAB _ ho⟩ fp (YAQ _) (fun b o e=>YAB _ e) hp hv
 ·have nI:S≠s.heap.objs.size+1:=YAX (YCK hlt)
  have nT:s.heap.objs.size≠s.heap.objs.size+1:=YAX (Nat.lt_succ_self _)
  obtain⟨ms',p',r'⟩:=Zdc (ZgN pp) hv
  have W:∀A':Around,A'.handled=none→_:=fun A' hA=>Zfy (prog:=prog) (w:=w) (A:=A') (I:=s.heap.objs.size+1) (S:=S) (o:=o) (tp:=s.heap.objs.size) hA nI nT hd hf pp
  rw[hlen]at W
  refine h _ d _ _ _ ms' _ W ⟨⟨{ cls:=.type "set_iterator",data:=.fields #[.ref s.heap.objs.size,.int 0 0,.ref S,.int es.size 0,.int ep 0] },?_,rfl,by rw[hlen];rfl⟩,YAB _ (YAB _ ho),YAB _ (YAG _ rfl)⟩ ?_ (YCc _) (fun b o e=>YAB _ (YAB _ e)) (p'.trans hp) r'
  ·rw[←YAs];exact YAG _ rfl
  ·intro b hb
   rcases YAK.mp hb with z | z
   ·exact .inr (by rw[z];exact YCc _)
   ·rcases YAK.mp z with z | z
    ·exact .inl z
    ·have z:b=s.heap.objs.size:=by simpa using z
     exact .inr (YCO z.symm)
theorem ZdE {S:Addr}{ls:List (List Nat)}{Q:List Value→Shared→Prop}(hh:A.handled=none)(hS:TxSet prog w s.heap S ls (!Za7 w))(hn:ls.length≤sizeLine)
  (hQ:∀(s':Shared) (vs:List Value) (ms:List (List Nat)),(∀b o,s.heap.get? b=some o→s'.heap.get? b=some o)→s'.gens=s.gens→s'.os=s.os→ms.Perm ls→Vals (ms.map tx) vs→Q vs s'):wpAny (model prog w) A (collect (.ref S)) Q E s:=by
 unfold collect
 refine YAA (wpAny_runValue (codeAny_builtin F.entry_proto_collect ?_))
 rw[YCm F.plain_proto_collect _]
 show wpAny _ A.in1 (newList [] >>= fun l=>again (.builtin "list.__iadd__" ⟨[l,.ref S],[]⟩)) _ _ s
 refine YAA (YBY (YAD ⟨plainId_quiet F.plain_list_iadd _,codeAny_builtin F.entry_list_iadd ?_⟩))
 rw[YCm F.plain_list_iadd _]
 generalize hH:s.heap.push { cls:=.type "list",data:=.seq ([]:List Value).toArray }=H
 have hHs:H.objs.size=s.heap.objs.size+1:=by rw[←hH,YAs]
 have hL:H.get? s.heap.objs.size=some { cls:=.type "list",data:=.seq ([]:List Value).toArray }:=hH▸YAG _ rfl
 have k1:∀b o,s.heap.get? b=some o→H.get? b=some o:=fun b o e=>hH▸YAB _ e
 have hS1:TxSet prog w H S ls (!Za7 w):=hS.keep fun o e=>k1 S o e
 have hT:Shared.TypeIs { s with heap:=H } (.ref S) "set":=hS1.typ (s:={ s with heap:=H })
 have nS:S≠s.heap.objs.size:=by
  obtain⟨o,_,_,_,_,ho,_⟩:=hS
  exact YAX (YAH ho)
 show wpAny _ A.in1 (Builtin.List.listExtendWith (.ref s.heap.objs.size) (.ref S) (.ref s.heap.objs.size)) _ _ { s with heap:=H }
 unfold Builtin.List.listExtendWith
 refine YAA (wpAny_typeOf hT ?_)
 have h1:Builtin.List.listSameRef (.ref s.heap.objs.size) (.ref S)=false:=by simp[Builtin.List.listSameRef,YAx nS]
 have h2:(Value.type "set" == Value.type "list")=false:=by decide
 have h3:(Value.type "set" == Value.type "tuple")=false:=by decide
 simp only[h1,h2,h3,Bool.or_false,YCD,if_false]
 refine YAA (Zhd (s:={ s with heap:=H }) hS1 fun h2' d I fp vs ms St W st hfp hI k2 hp hv=>?_)
 have hT2:Shared.TypeIs { s with heap:=h2',drawn:=d } (.ref S) "set":=(hS1.keep fun o e=>k2 S o e).typ (s:={ s with heap:=h2',drawn:=d })
 refine YAA (YBU ?_)
 unfold Builtin.List.listLengthHint
 refine YAA (wpAny_specialOf hT2 Zfg ?_)
 wp_delta
 refine YAA (wpAny_isInstance (T:="set") (v:=.ref S) (b:=true) hT2 (by rw[isSubtype_type];kernel_rfl) ?_)
 show wpAny _ A.in1 (typeOf (Value.ref S) >>= fun r=>_) _ _ _
 refine YAA (wpAny_typeOf hT2 ?_)
 refine YAD ?_
 rw[YAO (by decide)]
 refine YAA (YBo ?_)
 have hL2:h2'.get? s.heap.objs.size=some { cls:=.type "list",data:=.seq ([]:List Value).toArray }:=k2 _ _ hL
 refine YAA ?_
 show wpAny _ A.in1 (updateSeq s.heap.objs.size (·.push .none) >>= fun _=>updateSeq s.heap.objs.size (·.pop)) _ _ _
 refine YAA (wpAny_updateSeq hL2 rfl ?_)
 have hL3:=YBP (Obj.mapSeq (·.push Value.none)) hL2 rfl
 refine wpAny_updateSeq hL3 rfl ?_
 have hL4:=YBP (Obj.mapSeq (·.pop)) hL3 rfl
 have oth:∀b o,b≠s.heap.objs.size→h2'.get? b=some o→((h2'.update s.heap.objs.size (Obj.mapSeq (·.push Value.none))).update s.heap.objs.size (Obj.mapSeq (·.pop))).get? b=some o:=
  fun b o hb e=>(YBC _ _ (YAx hb)).trans ((YBC _ _ (YAx hb)).trans e)
 have hle:s.heap.objs.size+1≤I:=by rw[←hHs];exact hI
 have hSf:s.heap.objs.size∉fp:=fun z=>by
  rcases hfp _ z with q | q
  ·exact nS q.symm
  ·have q':H.objs.size≤s.heap.objs.size:=q
   rw[hHs]at q';exact absurd q' (Nat.not_succ_le_self _)
 refine YAD ⟨plainId_quiet F.plain_extend_loop _,codeAny_extend_loopS (W A.in1 hh).toS hn _ hSf _ ls.length 0 _ _ _ rfl (YAz _) ((W A.in1 hh).frame 0 h2' _ st fun b hb o e=>oth b o (fun z=>hSf (z▸hb)) e) hL4 (ItemsOf.nil _) fun s' acc' c' hm hS' hacc=>?_⟩
 show wpAny _ A (load s.heap.objs.size >>= fun r=>_) _ _ s'
 refine YAA (wpAny_load hS' ?_)
 have hvs:acc'.toList=vs:=by
  have hl:vs.length=ls.length:=by rw[←hv.length,YAE,hp.length_eq]
  apply YCh
  intro j
  rw[YAl]
  by_cases hj:j<ls.length
  ·have hj':j<acc'.size:=by rw[hacc.1];exact hj
   have e:acc'[j]?=some acc'[j]:=by simp[hj']
   rw[e,hacc.2 j _ e]
  ·rw[Array.getElem?_eq_none (by rw[hacc.1];omega),YBO (by omega)]
 have done:=hQ s' vs ms (fun b o e=>by
  have hlt:=YAH e
  refine hm.heap b o (fun z=>?_) (oth b o (YAX hlt) (k2 b o (k1 b o e)))
  rcases YAK.mp z with q | q
  ·rw[q]at hlt;exact YAv _ hlt
  ·have q:b=I:=by simpa using q
   rw[q]at hlt
   exact absurd hlt (YDJ.mpr (Nat.le_of_succ_le hle))) hm.gens hm.os hp hv
 rw[←hvs]at done
 exact YAD done
end
noncomputable def leT (a b:List Nat):Bool:=!decide (b<a)
noncomputable def Za4 (ls:List (List Nat)):List (List Nat):=ls.mergeSort leT
theorem Zbu {a b:List Nat}:leT a b=true↔a≤b:=by
 unfold leT
 rw[Bool.not_eq_true',decide_eq_false_iff_not]
 exact List.not_lt
theorem ZaJ (ls:List (List Nat)):(Za4 ls).Perm ls:=List.mergeSort_perm _ _
theorem Zbe (ls:List (List Nat)):(Za4 ls).Pairwise (fun a b=>leT a b=true):=
 List.pairwise_mergeSort (le:=leT) (fun a b c h1 h2=>Zbu.mpr (List.le_trans (Zbu.mp h1) (Zbu.mp h2))) (fun a b=>Bool.or_eq_true_iff.mpr ((List.le_total a b).imp Zbu.mpr Zbu.mpr)) ls
theorem Zb1 {ms ls:List (List Nat)}(p:ms.Perm ls)(h:ms.Pairwise (fun a b=>leT a b=true)):ms=Za4 ls:=
 List.Perm.eq_of_pairwise (fun a b _ _ h1 h2=>List.le_antisymm (Zbu.mp h1) (Zbu.mp h2)) h (Zbe ls) (p.trans (ZaJ ls).symm)
theorem Zdf {ms ls:List (List Nat)}(p:ms.Perm ls):Za4 ms=Za4 ls:=Zb1 ((ZaJ ms).trans p) (Zbe ms)
theorem ZfC:∀ {us:List Value} {ss:List Str},StrsAre us ss→Vals ((ss.map fun x=>x.cps.toList).map tx) us
 | _,_,.nil=>.nil
 | _,_,.cons x t h=>.cons ⟨t,rfl⟩ (ZfC h)
theorem Zcl:∀ {ss:List Str},sortedS ss=true→(ss.map fun x=>x.cps.toList).Pairwise (fun a b=>leT a b=true):=by
 have ris:∀(p:Str) (l:List Str),risingS p l=true→((p::l).map fun x=>x.cps.toList).Pairwise (fun a b=>leT a b=true):=by
  intro p l
  induction l generalizing p with
  | nil=>intro _;simp
  | cons x r ih=>
   intro h
   have h':(!ltCps x.cps.toList p.cps.toList&&risingS x r)=true:=h
   rw[YAR,ltCps_eq]at h'
   have q:=ih x h'.2
   rw[YAf,YBK]
   refine⟨fun b hb=>?_,q⟩
   have hx:leT p.cps.toList x.cps.toList=true:=h'.1
   rw[YAf]at hb q
   rcases YAK.mp hb with z | z
   ·rw[z];exact hx
   ·exact Zbu.mpr (List.le_trans (Zbu.mp hx) (Zbu.mp ((YBK.mp q).1 b z)))
 intro ss h
 cases ss with
 | nil=>simp
 | cons x r=>exact ris x r h
theorem ZeL {us:List Value}{ls:List (List Nat)}(r:Vals (ls.map tx) us):StrsAre us (ls.map fun l=>(⟨l.toArray⟩:Str)):=ZcF r
theorem ZgJ (ls:List (List Nat)):(ls.map fun l=>(⟨l.toArray⟩:Str)).map (fun x=>x.cps.toList)=ls:=by
 rw[YBZ]
 conv=>rhs;rw[←List.map_id ls]
 apply YDQ
 intro l _
 simp
section
variable {prog:Program}{w:World}{A:Around}{E:Value→Shared→Prop}{s:Shared}
theorem ZhD {vs:List Value}{ms:List (List Nat)}{Q:Value→Shared→Prop}(hv:Vals (ms.map tx) vs)(h64:ms.length<64)
  (h:∀(h':Heap) (us:List Value) (e:Nat),(∀b o,s.heap.get? b=some o→h'.get? b=some o)→h'.get? s.heap.objs.size=some { cls:=.type "list",data:=.seq us.toArray e }→Vals ((Za4 ms).map tx) us→Q (.ref s.heap.objs.size) { s with heap:=h' }):
  wpAny (model prog w) A (do let l ←newList vs;let _ ←holding [l] (call (.builtin "list.sort") [l] []);ret l) (fun fin s'=>∃v,fin=Fin.done (Flow.ret v)∧Q v s') E s:=by
 have hS:=ZeL hv
 have hlen:vs.length<64:=by rw[←hv.length,YAE];exact h64
 refine YAA (wpAny_newList ?_ ?_)
 ·have hoL:(s.heap.push (seqObj "list" vs.toArray 0)).get? s.heap.objs.size=some (seqObj "list" vs.toArray 0):=YAG _ rfl
  refine YAA (YBU (YBg slot_list_sort ⟨_,hoL,rfl⟩ entry_list_sort (list_sort_treeK strKind_oneLt hoL hS.keysOf (fun v₁ v₂ rest e=>keyKind_strs (by rw[←e];exact hS)) hlen fun st' a1 a2=>⟨_,rfl,?_⟩) (args_list_sort _)))
  obtain⟨ss',b1,b2,b3⟩:=sorted_out_str hS a1 a2
  obtain⟨e,he⟩:=sortedHeap_at (out:=(arrOf st').map (·.2)) hoL
  refine YAD ⟨_,rfl,h _ ((arrOf st').map (·.2)).toList e (fun b o q=>?_) ?_ ?_⟩
  ·have hlt:=YAH q
   have hlt':b<(s.heap.push (seqObj "list" vs.toArray 0)).objs.size:=by rw[YAs];exact YCK hlt
   exact(sortedHeap_old (YAX hlt) hlt').trans (YAB _ q)
  ·have q:((arrOf st').map (·.2)).toList.toArray=(arrOf st').map (·.2):=YCl
   rw[q];exact he
  ·have p1:(ss'.map fun x=>x.cps.toList).Perm ms:=by
    have:=b2.map (fun x:Str=>x.cps.toList)
    rwa [ZgJ]at this
   have e1:=Zb1 p1 (Zcl b3)
   rw[←e1]
   exact ZfC b1
 ·exact YAP (YCv hlen) (by rw[sizeLine_eq];decide)
theorem ZgQ {S:Addr}{ls:List (List Nat)}{Q:Value→Shared→Prop}(hh:A.handled=none)(hS:TxSet prog w s.heap S ls (!Za7 w))(h64:ls.length<64)
  (h:∀(s':Shared) (a:Addr) (us:List Value) (e:Nat),s.heap.get? a=none→(∀b o,s.heap.get? b=some o→s'.heap.get? b=some o)→s'.gens=s.gens→s'.os=s.os→s'.heap.get? a=some { cls:=.type "list",data:=.seq us.toArray e }→Vals ((Za4 ls).map tx) us→Q (.ref a) s'):
  wpAny (model prog w) A (call (.builtin "sorted") [.ref S]) Q E s:=by
 refine YDZ kind_sorted plain_sorted entry_sorted (args_sorted1 _) ?_
 unfold Builtin.«sorted»
 refine YAA (m:=checkCount "sorted" 1 1 _) (YAD ?_)
 refine YAA (ZdE (by first | exact hh | simpa using hh) hS (YAP (YCv h64) (by rw[sizeLine_eq];decide)) fun s' vs ms k1 hg ho hp hv=>?_)
 have hl:ms.length<64:=by rw[hp.length_eq];exact h64
 refine ZhD hv hl fun h' us e k2 he r=>?_
 rw[Zdf hp]at r
 exact h _ _ us e (by
  cases q:s.heap.get? s'.heap.objs.size with
  | none=>rfl
  | some o=>exact absurd (YAH (k1 _ _ q)) (YAv _)) (fun b o q=>k2 b o (k1 b o q)) hg ho he r
end
structure Fly (B:Heap)(l:List Env)(e:Addr)(C:Value)(d:Option Addr)(fl:Value)(h:Heap):Prop where
 st:B.StaysIn h
 ne:B.get? e=none
 fr:h.FunFrames B l
 tr:∃oe vs T oT ts,h.get? e=some oe∧oe.cls=C∧oe.dict=d∧oe.data=.fields vs∧vs[1]?=some (.ref T)∧B.get? T=none∧T≠e∧h.get? T=some oT∧oT.data=.fields ts∧ts[3]?=some fl
theorem ZjG (o:Obj)(f:Array Value→Array Value):(o.mapFields f).dict=o.dict:=by
 obtain⟨c,d,dt,sl⟩:=o
 cases dt<;>rfl
section
variable {M:Model}{A:Around}{E:Value→Shared→Prop}{s:Shared}{B:Heap}{env:Env}{outer:List Env}{L e:Addr}{C:Value}{d:Option Addr}{Q:Unit→Shared→Prop}
theorem Ze0 {oe:Obj}{vs:Array Value}{head:Value}{hadNext:Bool}(hfr:A.frames=some (env::outer))(hl:s.heap.FunFrames B (env::outer))(hf:env.frame=some L)(he:s.heap.get? e=some oe)(hkb:B.StaysIn s.heap)(hen:B.get? e=none)
  (hc:oe.cls=C) (hdd:oe.dict=d) (hd:oe.data=.fields vs) (hsz:1<vs.size) (h:∀h',Fly B (env::outer) e C d (rawInt L) h'→s.heap.UpToSlots h'→Q () { s with heap:=h' }):
  wpAny M A (do let a ←frameOf env;let pl ←entryPlaceOf L hadNext;let b ←EntryCells.newEntry head a .none (rawInt L) .none pl;setField (.ref e) 1 b) Q E s:=by
 have hene:e∉(env::outer).filterMap (·.frame):=fun hm=>by
  obtain⟨_,o,ho,hnf⟩:=hl.mem hm
  rw[he]at ho
  cases ho
  exact hnf vs hd
 refine YAA (wpAny_frameOf_fun hfr hl hf fun h1 hs=>YAA (wpAny_entryPlaceOf fun pl hpl=>?_))
 unfold EntryCells.newEntry newFields
 refine YAA (YBY ?_ (hpl.sizeOk5 _ _ _ _ _))
 have e1:h1.get? e=some oe:=(hs.2.1 e hene).trans he
 have k1:B.StaysIn h1:=fun b o hbo=>(hs.2.1 b fun hm=>by rw[(hl.mem hm).1]at hbo;cases hbo).trans (hkb b o hbo)
 generalize eT:({ cls:=.type "traceback",dict:=none,data:=.fields ([head,.ref L,.none,rawInt L,.none]++(if pl.isEmpty then List.replicate 6 Value.none else pl)).toArray }:Obj)=oT
 have e2:(h1.push oT).get? e=some oe:=YAB _ e1
 refine YBR e2 hd hsz ?_
 have nT:h1.objs.size≠e:=YCu (YAH e1)
 have d3:=YCA hd (·.setIfInBounds 1 (Value.ref h1.objs.size))
 have e3:=YBP (Obj.mapFields (·.setIfInBounds 1 (Value.ref h1.objs.size))) e2 (YDD d3)
 have t3:((h1.push oT).update e (Obj.mapFields (·.setIfInBounds 1 (Value.ref h1.objs.size)))).get? h1.objs.size=some oT:=by
  rw[YBC _ _ (YAx nT)]
  refine YAG _ ?_
  rw[←eT];rfl
 have keep:∀b o,b≠e→h1.get? b=some o→((h1.push oT).update e (Obj.mapFields (·.setIfInBounds 1 (Value.ref h1.objs.size)))).get? b=some o:=fun b o hb q=>by
  rw[YBC _ _ (YAx hb)]
  exact YAB _ q
 have nrec:∀b o,s.heap.get? b=some o→(∀vs,o.data≠.fields vs)→b≠e:=fun b o q n z=>by
  rw[z,he]at q
  cases q
  exact n vs hd
 have dT:oT.data=.fields ([head,.ref L,.none,rawInt L,.none]++(if pl.isEmpty then List.replicate 6 Value.none else pl)).toArray:=by rw[←eT]
 refine h _ ⟨fun b o q=>keep b o (fun z=>by rw[z,hen]at q;cases q) (k1 b o q),hen,hl.of_keeps fun b o q n=>?_,_,_,h1.objs.size,oT,_,e3,(Obj.cls_mapFields _ _).trans hc,(ZjG _ _).trans hdd,d3,?_,k1.fresh,nT,t3,dT,?_⟩ fun b o q n=>?_
 ·obtain⟨sl,q2⟩:=hs.2.2 b o q
  exact⟨_,keep b _ (nrec b o q n) q2,rfl⟩
 ·simp[hsz]
 ·simp
 ·obtain⟨sl,q2⟩:=hs.2.2 b o q
  exact⟨sl,keep b _ (nrec b o q n) q2⟩
theorem Zg2 {oe:Obj}{vs:Array Value}(hfr:A.frames=some (env::outer))(hl:s.heap.FunFrames B (env::outer))(hf:env.frame=some L)(he:s.heap.get? e=some oe)(hkb:B.StaysIn s.heap)(hen:B.get? e=none)
  (hc:oe.cls=C) (hdd:oe.dict=d) (hd:oe.data=.fields vs) (h1:vs[1]?=some .none) (h:∀h',Fly B (env::outer) e C d (rawInt L) h'→s.heap.UpToSlots h'→Q () { s with heap:=h' }):wpAny M A (noteFrame (.ref e) env) Q E s:=by
 unfold noteFrame
 simp only[hf]
 refine YAA (YBd he hd h1 ?_)
 rw[YAJ (by decide)]
 exact Ze0 hfr hl hf he hkb hen hc hdd hd (YBw.mp h1).1 h
theorem ZeZ (hfr:A.frames=some (env::outer))(hf:env.frame=some L)(x:Fly B (env::outer) e C d .none s.heap)(h:∀h',Fly B (env::outer) e C d (rawInt L) h'→s.heap.UpToSlots h'→Q () { s with heap:=h' }):
  wpAny M A (noteFrame (.ref e) env) Q E s:=by
 obtain⟨hkb,hen,hl,oe,vs,T,oT,ts,he,hc,hdd,hd,h1,hnT,hTe,hT,hdT,h3⟩:=x
 unfold noteFrame
 simp only[hf]
 refine YAA (YBd he hd h1 ?_)
 rw[YAO (show (Value.ref T != Value.none)=true from by simp)]
 refine YAA (YBd hT hdT h3 ?_)
 rw[YAJ (show ¬((Value.none == rawInt L)=true) from by simp[rawInt])]
 refine YAA (YBR hT hdT (YBw.mp h3).1 ?_)
 have oth:∀b,b≠T→(s.heap.update T (Obj.mapFields (·.setIfInBounds 3 Value.none))).get? b=s.heap.get? b:=fun b hb=>YBC _ _ (YAx hb)
 have nrec:∀b o,s.heap.get? b=some o→(∀vs,o.data≠.fields vs)→b≠T:=fun b o q n z=>by
  rw[z,hT]at q
  cases q
  exact n ts hdT
 refine Ze0 (s:={ s with heap:=s.heap.update T (Obj.mapFields (·.setIfInBounds 3 Value.none)) }) hfr (hl.of_keeps fun b o q n=>⟨o,(oth b (nrec b o q n)).trans q,rfl⟩) hf ((oth e (YAx hTe)).trans he)
  (fun b o q=>(oth b fun z=>by rw[z,hnT]at q;cases q).trans (hkb b o q)) hen hc hdd hd (YBw.mp h1).1 fun h' y u=>h h' y fun b o q n=>u b o ((oth b (nrec b o q n)).trans q) n
theorem ZbM {l:List Env}{fl:Value}(x:Fly B l e C d fl s.heap)(h:∀h',Fly B l e C d .none h'→s.heap.UpToSlots h'→Q () { s with heap:=h' }):wpAny M A (setFlight (.ref e) none) Q E s:=by
 obtain⟨hkb,hen,hl,oe,vs,T,oT,ts,he,hc,hdd,hd,h1,hnT,hTe,hT,hdT,h3⟩:=x
 have hz:3<ts.size:=(YBw.mp h3).1
 have oth:∀b,b≠T→(s.heap.update T (Obj.mapFields (·.setIfInBounds 3 ((none:Option Addr).elim Value.none fun f=>rawInt f)))).get? b=s.heap.get? b:=fun b hb=>YBC _ _ (YAx hb)
 have nrec:∀b o,s.heap.get? b=some o→(∀vs,o.data≠.fields vs)→b≠T:=fun b o q n z=>by
  rw[z,hT]at q
  cases q
  exact n ts hdT
 unfold setFlight
 refine YAA (YBd he hd h1 ?_)
 rw[YAO (show (Value.ref T != Value.none)=true from by simp)]
 refine YBR hT hdT hz (h _ ⟨fun b o q=>(oth b fun z=>by rw[z,hnT]at q;cases q).trans (hkb b o q),hen,hl.of_keeps fun b o q n=>⟨o,(oth b (nrec b o q n)).trans q,rfl⟩,oe,vs,T,_,_,(oth e (YAx hTe)).trans he,hc,hdd,hd,h1,hnT,hTe,
  YBP _ hT (YDD (YCA hdT _)),YCA hdT _,by simp[hz]⟩ fun b o q n=>⟨o.slots,(oth b (nrec b o q n)).trans q⟩)
theorem Fly.pop {h:Heap}{fl:Value}(x:Fly B (env::outer) e C d fl h):Fly B outer e C d fl h:=⟨x.st,x.ne,x.fr.2.2,x.tr⟩
theorem ZfN {oe:Obj}{vs:Array Value}(hfr:A.frames=some (env::outer))(hl:s.heap.FunFrames B (env::outer))(hf:env.frame=some L)(he:s.heap.get? e=some oe)(hkb:B.StaysIn s.heap)(hen:B.get? e=none)
  (hc:oe.cls=C) (hdd:oe.dict=d) (hd:oe.data=.fields vs) (h1:vs[1]?=some .none) (h:∀h',Fly B outer e C d .none h'→s.heap.UpToSlots h'→Q () { s with heap:=h' }):wpAny M A (leaving env (.ref e)) Q E s:=by
 unfold leaving
 refine YAA (Zg2 hfr hl hf he hkb hen hc hdd hd h1 fun h1 x1 u1=>ZbM (s:={ s with heap:=h1 }) x1 fun h2 x2 u2=>h h2 x2.pop (u1.trans u2))
theorem Zha (hfr:A.frames=some (env::outer))(hf:env.frame=some L)(x:Fly B (env::outer) e C d .none s.heap)(h:∀h',Fly B outer e C d .none h'→s.heap.UpToSlots h'→Q () { s with heap:=h' }):wpAny M A (leaving env (.ref e)) Q E s:=by
 unfold leaving
 refine YAA (ZeZ hfr hf x fun h1 x1 u1=>ZbM (s:={ s with heap:=h1 }) x1 fun h2 x2 u2=>h h2 x2.pop (u1.trans u2))
end
end L2
namespace L2
open PySem PySem.Spec PyProof.Rows
open PySem.W (Frag findIn typeIn mroIn clsIn InstAt Looks)
noncomputable def xr (a C:Addr)(d:Option Addr):HO:=.ext fun h=>∃(o:Obj) (vs:Array Value),h.get? a=some o∧o.cls=.ref C∧o.dict=d∧o.data=.fields vs
theorem ZlJ {P:Program}{w:World}{H:Hp}{h:Heap}{e C:Addr}{d:Option Addr}{o:Obj}{vs:Array Value}(h1:h.get? e=some o)(h2:o.cls=.ref C)(h3:o.dict=d)(h4:o.data=.fields vs):ObjOk P w H h e (xr e C d):=
 ⟨⟨o,vs,h1,h2,h3,h4⟩,⟨o,h1⟩,fun g1 g2 ⟨o',vs',q1,q⟩ k=>⟨o',vs',k _ q1,q⟩⟩
inductive XAny (H:Hp) (e C:Addr):List (Str×V)→Prop where
 | un {fs:List (Str×V)}:XAt H e C fs→XAny H e C fs
 | bare:H e=some (xr e C none)→XAny H e C []
 | full {d:Addr} {fs:List (Str×V)}:H e=some (xr e C (some d))→H d=some (xdO d fs)→d≠e→XAny H e C fs
section
variable {M:Model}{A:Around}{E:Value→Shared→Prop}{s:Shared}{env:Env}
theorem ZhK {x:Sem Value}{Q:Flow→Shared→Prop}(hh:A.handled=none)
  (h:wpAny M A x (fun v s₁=>∃(e t:Addr) (od:Option Addr) (sl:Array (Option Value)) (C:Addr) (nm q:Str) (N:Addr) (bs bm:List Value) (hdct:Bool) (sn:List Str) (sub:List Value) (ab:Bool) (col:Option Bool) (dd:Option Addr) (k0 k1 k2 k3 k5:Option Value) (newId:String),v=.ref e∧bm.contains (.type "BaseException")=true ∧
   s₁.heap.get? C=some (excClassObj nm q C N bs bm hdct sn sub ab col dd k0 k1 k2 k3 k5 newId)∧s₁.heap.get? e=some { cls:=.ref C,dict:=od,data:=.fields #[.ref t,.none,.none,.none,.bool false,.none],slots:=sl }∧E (.ref e) s₁) E s):wpAny M A (raiseStmt env (some x) none) Q E s:=by
 unfold raiseStmt
 refine YAA (YBF h (fun v s₁ h₁=>?_) fun _ _ x=>x)
 obtain⟨e,t,od,sl,C,nm,q,N,bs,bm,hdct,sn,sub,ab,col,dd,k0,k1,k2,k3,k5,newId,rfl,hbase,hC,he,hE⟩:=h₁
 have hcB:(Value.ref C::bm).contains (.type "BaseException")=true:=by rw[YCB,hbase,Bool.or_true]
 obtain⟨hp,g,d,tk,os⟩:=s₁
 repeat (first | with_reducible refine YBT he ?_ | with_reducible refine YBT hC ?_ | (with_reducible refine YCs hC ?_;rw[hcB]) | wp_step)
 exact wpAny_raiseNew_none hh hE
end
def CXr (P:Program)(w:World):CXT:=fun outer H s E ev s'=>∃(e C:Addr) (d:Option Addr) (H':Hp) (h1 B:Heap),ev=.ref e∧s'.os=s.os∧AllBare s'.gens∧Un (frs outer) [] H H' s.heap h1∧HOk P w H' h1∧H' e=some (xr e C d) ∧
 (∀b o,h1.get? b=some o→b≠e→((∃u,H' b=some u)∨((∃o',s.heap.get? b=some o')∧b∉frs outer))→B.get? b=some o)∧Fly B outer e (.ref C) d .none s'.heap∧h1.UpToSlots s'.heap∧E (.ref C) (some e) H'
def Raises (X:Cx)(Ex:XK):Prop:=∀(pins:List (Addr×Obj)) (σ:St) (H:Hp) (s:Shared) (e C:Addr) (d:Option Addr),Inv X pins σ H s→H e=some (xo e C d)→Ex (.ref C) (some e) (upd H e (xr e C d))→X.xe (.ref e) s
theorem Inv.raised {X:Cx}{pins:List (Addr×Obj)}{σ:St}{H:Hp}{s:Shared}{e C:Addr}{d:Option Addr}(I:Inv X pins σ H s)(h:H e=some (xo e C d)):Inv X pins σ (upd H e (xr e C d)) s:=by
 obtain⟨o,t,h1,h2,h3,h4⟩:=ZcQ I h
 exact I.write (x:=e) (e:=e) (o:=xr e C d) (h':=s.heap) (t':=s.toks) (by rw[h];exact trivial) (.inl rfl) (fun b u _ q=>q) ⟨o,h1⟩ (ZlJ h1 h2 h3 h4)
theorem Zlm {h:Heap}{as:List Addr}{b:Addr}{o:Obj}(e:(PySem.W.hideAll h as).get? b=some o):h.get? b=some o:=PySem.W.of_hideAll _ e
theorem ZbF {P:Program}{w:World}{K:Frag}{mg:Str→Option Value}{base:Heap}{N:List Str}{qual:Str}{scope:Scope}{f:Addr}{cd:Value}{A:Around}{outer:List Env}{s0:Shared}{H0:Hp}{E:XK}:
  Raises (cxOf (CXr P w) P w K mg base N qual scope f cd A outer s0 H0 E) E:=by
 intro pins σ H s e C d I he hE
 obtain⟨o,t,h1,h2,h3,h4⟩:=ZcQ I he
 have J:=I.raised he
 generalize hX:cxOf (CXr P w) P w K mg base N qual scope f cd A outer s0 H0 E=X at I J ⊢
 have eA:X.A=A.deeper (envOfC qual scope s0.heap.objs.size f cd):=by rw[←hX];rfl
 have eS:X.stack=envOfC qual scope s0.heap.objs.size f cd::outer:=by rw[←hX];rfl
 have eF:X.fs=frs outer:=by rw[←hX];rfl
 have e0:X.s₀=s0:=by rw[←hX];rfl
 have eH:X.H₀=H0:=by rw[←hX];rfl
 have eX:X.ex=[]:=by rw[←hX];rfl
 have eL:X.env=envOfC qual scope s0.heap.objs.size f cd:=by rw[←hX];rfl
 have ePr:X.prog=P:=by rw[←hX];rfl
 have eW:X.w=w:=by rw[←hX];rfl
 have hxe:∀ev s',wpAny (model P w) (A.deeper (envOfC qual scope s0.heap.objs.size f cd)) (leaving (envOfC qual scope s0.heap.objs.size f cd) ev) (fun _ s''=>CXr P w outer H0 s0 E ev s'') (fun e' s''=>CXr P w outer H0 s0 E e' s'') s'→X.xe ev s':=by
  intro ev s' z;rw[←hX];exact z
 refine hxe _ _ ?_
 have hfr:(A.deeper (envOfC qual scope s0.heap.objs.size f cd)).frames=some (envOfC qual scope s0.heap.objs.size f cd::outer):=by rw[←eA,←eS];exact I.ok.frames
 have stk:s.heap.FunFrames X.base X.stack:=I.stack
 have hin:∀env∈X.stack,∀a,env.frame=some a→a∈frs X.stack++[e]:=fun env henv a ha=>List.mem_append_left _ (List.mem_filterMap.mpr ⟨env,henv,ha⟩)
 have ff:=PySem.W.funFrames_hide (as:=frs X.stack++[e]) stk hin
 rw[eS]at ff
 have stays:(PySem.W.hideAll s.heap (frs (envOfC qual scope s0.heap.objs.size f cd::outer)++[e])).StaysIn s.heap:=fun b o q=>Zlm q
 refine ZfN (B:=PySem.W.hideAll s.heap (frs (envOfC qual scope s0.heap.objs.size f cd::outer)++[e])) (L:=s0.heap.objs.size) hfr ff rfl h1 stays (PySem.W.hideAll_none _ (by simp)) h2 h3 h4 (by simp) fun h' fl up=>?_
 have os:s.os=s0.os:=by rw[←e0];exact I.os
 have un:Un (frs outer) [] H0 (upd H e (xr e C d)) s0.heap s.heap:=by
  have:=J.base
  rwa [eF,eX,eH,e0]at this
 have ok:HOk P w (upd H e (xr e C d)) s.heap:=by
  have:=J.hok
  rwa [ePr,eW]at this
 refine⟨e,C,d,upd H e (xr e C d),s.heap,_,rfl,os,I.bare,un,ok,Zad,fun b o hb hne hc=>?_,fl,up,hE⟩
 refine PySem.W.hideAll_get _ hb fun z=>?_
 rcases YAe.mp z with z | z
 ·have z':b∈frs X.stack:=by rw[eS];exact z
  rcases hc with⟨u,hu⟩|⟨⟨o',ho'⟩,hn⟩
  ·rw[J.stkFree b z']at hu;cases hu
  ·rcases YAK.mp (I.stkSub b z') with q | q
   ·rw[q,eL]at ho'
    exact absurd (YAH ho') (YAv _)
   ·rw[eF]at q;exact hn q
 ·exact hne (by simpa using z)
def ZjT (K:Frag)(Ex:XK)(te:TE):TS:=fun _ σ H=>te σ H fun v H1=>∃e C d,v=.ref e∧H1 e=some (xo e C d)∧Xm K C∧Ex (.ref C) (some e) (upd H1 e (xr e C d))
theorem Zb2 {X:Cx}{Ex:XK}{e:Expr}{te:TE}{pos:Pos}(hR:Raises X Ex)(hc:X.calm=true)(he:PE X e te):PS X (.Raise (some e) none pos) (ZjT X.K Ex te):=by
 intro pins s σ H D I h
 rw[arm_exec_Raise]
 show wpAny _ X.A (do standAt pos;raiseStmt X.env (some (do let v ←eval e X.env;standAt pos;pure v)) none) _ _ s
 refine YAA (wpAny_standAt ?_)
 refine ZhK (I.ok.hd hc) (YAA (thn (he pins s σ H _ I h) fun v s1 ⟨x,H1,I1,r1,a,C,d,ex,hx,m,q⟩=>YAA (wpAny_standAt (YAD ?_))))
 subst ex
 obtain rfl:v=Value.ref a:=r1
 obtain⟨o,t,h1,h2,h3,h4⟩:=ZcQ I1 hx
 obtain⟨nm,q',N,bs,bm,hdct,sn,sub,ab,col,dd,k0,k1,k2,k3,k5,hl,hxm⟩:=m.parts
 obtain⟨oc,odi,oda,osl⟩:=o
 dsimp only at h2 h3 h4
 subst h2 h3 h4
 have hb:(Value.ref C::bm).contains (.type "BaseException")=true:=ZbZ (by decide +kernel) hxm
 rw[YCB]at hb
 refine⟨a,t,_,_,C,nm,q',N,bs,bm,hdct,sn,sub,ab,col,dd,k0,k1,k2,k3,k5,_,rfl,?_,I1.kIn _ _ hl,h1,hR pins σ H1 s1 a C _ I1 hx q⟩
 have z:(Value.type "BaseException" == Value.ref C)=false:=rfl
 rw[z,Bool.false_or]at hb
 exact hb
section
variable {P:Program}{w:World}{K:Frag}{mg:Str→Option Value}{base:Heap}
theorem Fun.okX {x qual:Str}{st:Stmt}{f:Addr}{fd:FuncData}{N ps:List Str}{k:Nat}{sp:Sp}(F:Fun K x qual st f fd)(S:FnScope N ps (Zah st))(len:∀vs H Q E,sp vs H Q E→vs.length=ps.length)
  (hbody:∀(cdv:Value) (A:Around) (outer:List Env) (s:Shared) (H:Hp) (vs:List V) (Q:VK) (E:XK),Room k (A.deeper (envOfC qual (Zah st) s.heap.objs.size f cdv))→sp vs H Q E →
   ∃t,PSs (cxOf (CXr P w) P w K mg base N qual (Zah st) f cdv A outer s H E) (Zbi st) t∧t { nx:=fun _ H'=>Q .non H',rt:=Q } (start N vs) H):FnOk P w K mg base (CXr P w) (k+1) f fd ps sp:=by
 obtain⟨oc,od,kV,doc,pm,an,cdv,ct,osl,rfl,lk,hcd⟩:=F.ex
 exact Zls lk hcd S len fun A outer s H vs Q E hr hsp=>hbody cdv A outer s H vs Q E hr hsp
end
abbrev TX:=St→Hp→VK→XK→Prop
def PEx (X:Cx)(e:Expr)(t:TX):Prop:=∀(pins:List (Addr×Obj)) (s:Shared) (σ:St) (H:Hp) (Q:VK) (E:XK),Inv X pins σ H s→t σ H Q E →
 wpAny (model X.prog X.w) X.A (eval e X.env) (EP X pins σ Q) (fun ev s'=>∃H2 s2,Inv X pins σ H2 s2∧CXr X.prog X.w X.stack H2 s2 E ev s') s
abbrev TSx:=Ends→(St→XK)→St→Hp→Prop
def XH (X:Cx)(pins:List (Addr×Obj))(Ex:St→XK)(ev:Value)(s':Shared):Prop:=∃σ' H2 s2,Inv X pins σ' H2 s2∧CXr X.prog X.w X.stack H2 s2 (Ex σ') ev s'
def PSx (X:Cx)(st:Stmt)(t:TSx):Prop:=∀(pins:List (Addr×Obj)) (s:Shared) (σ:St) (H:Hp) (D:Ends) (Ex:St→XK),Inv X pins σ H s→t D Ex σ H→wpAny (model X.prog X.w) X.A (exec st X.env) (SP X pins D) (XH X pins Ex) s
def PSsx (X:Cx)(st:List Stmt)(t:TSx):Prop:=∀(pins:List (Addr×Obj)) (s:Shared) (σ:St) (H:Hp) (D:Ends) (Ex:St→XK),Inv X pins σ H s→t D Ex σ H→wpAny (model X.prog X.w) X.A (execs st X.env) (SP X pins D) (XH X pins Ex) s
section
variable {X:Cx}{CX:CXT}{k:Nat}{f C:Addr}{fd:FuncData}{ps:List Str}{sp:Sp}{dvs:List V}{ds:List Value}{x m:Str}{p pos apos:Pos}{e o:Expr}{es:List Expr}{ta:TE}{t:TA}
theorem ZkO {pins:List (Addr×Obj)}{σ:St}{H:Hp}{s:Shared}{Q:VK}{E:XK}{us:List Value}{vs:List V}(F:FnOk X.prog X.w X.K X.mg X.base (CXr X.prog X.w) k f fd ps sp)(hr:Room k X.A)(hb:Binds X.K fd ps ds)(hd:Vals dvs ds)
  (I:Inv X pins σ H s) (r:Vals vs us) (h:sp (vs++dvs) H Q E):wpAny (model X.prog X.w) X.A (call (.ref f) us) (EP X pins σ Q) (fun ev s'=>∃H2 s2,Inv X pins σ H2 s2∧CXr X.prog X.w X.stack H2 s2 E ev s') s:=by
 have r2:Vals (vs++dvs) (us++ds):=r.append hd
 have hl:(us++ds).length=ps.length:=by rw[←r2.length];exact F.len _ _ _ _ h
 refine YBx (codeAny_mono (F.run X.A X.stack s H ⟨us,[]⟩ (us++ds) (vs++dvs) Q E hr I.env0 (hb s us I.kIn hl) r2 h) fun r s' hq=>?_)
 cases r with
 | error e=>exact⟨H,s,I,hq⟩
 | ok fl=>
  cases fl with
  | ret u=>exact I.after hq
  | next=>exact False.elim hq
  | brk=>exact False.elim hq
  | cont=>exact False.elim hq
def ZjU (sp:Sp)(dvs:List V)(t:TA):TX:=fun σ H Q E=>t σ H fun vs H1=>sp (vs++dvs) H1 Q E
theorem Zc6 (F:FnOk X.prog X.w X.K X.mg X.base (CXr X.prog X.w) k f fd ps sp)(hr:Room k X.A)(hg:Gl X x)(hm:X.mg x=some (.ref f))(hk:PySem.W.keepIn X.K (.ref f)=true)(hb:Binds X.K fd ps ds)(hd:Vals dvs ds)
  (ha:PA X.nox (e::es) t) (hdb:(x == ("__debug__":Str))=false:=by decide) (he:starEach (e::es) X.env=(false,eval e X.env)::starEach es X.env:=by rfl) (hpl:(backTo pos (starEach es X.env)).any (·.1)=false:=by rfl):
  PEx X (.Call (.Name x p) (e::es) [] pos) (ZjU sp dvs t):=by
 intro pins s σ H Q E I h
 refine YBJ (Zbv I hg hm ?_ hdb)
 refine YBl (h₀:=X.base) I.ok.mod.kin hk (YBF (ha pos pins s σ H _ (I.wish _) h) (fun us s1 ⟨vs,H1,I1,r,q⟩=>⟨I1.kIn,?_⟩) fun _ _ z=>False.elim z) he hpl
 exact ZkO F hr hb hd I1.unwish r q
def Zmd (i:Nat)(te:TX):TSx:=fun D Ex σ H=>te σ H (fun y H1=>D.nx (σ.set i (some y)) H1) (Ex σ)
theorem ZoZ {i:Nat}{te:TX}{pos':Pos}(hN:X.N.Nodup)(hi:X.N[i]?=some x)(hx:Loc X.env.scope x)(he:PEx X e te)(hs:swapsWith e (some (.Name x pos')) pos.line X.env=pure false:=by rfl)(hf:X.fn x=true∨X.env.scope.names.lookup x=some .local:=by first | exact .inl rfl | exact .inr rfl | assumption):
  PSx X (.Assign [.Name x pos'] e pos) (Zmd i te):=by
 intro pins s σ H D Ex I h
 refine wpAny_Assign_Name (YBF (he pins s σ H _ _ I h) (fun v s1 ⟨y,H1,I1,r1,q1⟩=>?_) fun ev s' ⟨H2,s2,I2,q⟩=>⟨σ,H2,s2,I2,q⟩) hs
 exact Zc2 I1 hN hi hx r1 (fun s2 I2=>⟨_,H1,I2,q1⟩) hf
def ZjX (te:TX):TSx:=fun D Ex σ H=>te σ H (fun _ H1=>D.nx σ H1) (Ex σ)
theorem Zc4 {te:TX}(he:PEx X e te)(hs:swapsWith e none pos.line X.env=pure false:=by rfl):PSx X (.Expr e pos) (ZjX te):=by
 intro pins s σ H D Ex I h
 exact wpAny_Expr_any (YBF (he pins s σ H _ _ I h) (fun v s1 ⟨y,H1,I1,r1,q1⟩=>⟨σ,H1,I1,q1⟩) fun ev s' ⟨H2,s2,I2,q⟩=>⟨σ,H2,s2,I2,q⟩) I.quiet hs
theorem ZbJ {st:Stmt}{t:TSx}(h1:PSx X st t):PSsx X [st] t:=by
 intro pins s σ H D Ex I h
 refine wpAny_execs_cons (thn (h1 pins s σ H D Ex I h) fun f s1 q=>?_)
 cases f with
 | next=>exact YDM q
 | ret v=>exact q
 | brk=>exact q
 | cont=>exact q
def sIfx (c:TT)(t u:TSx):TSx:=fun D Ex σ H=>c σ H fun b H1=>if b=true then t D Ex σ H1 else u D Ex σ H1
end
section
variable {X:Cx}{pins:List (Addr×Obj)}{σ:St}{H H':Hp}{s s1:Shared}{e C:Addr}{d:Option Addr}{h1 h5 B:Heap}
theorem Zhj (I:Inv X pins σ H s)(os:s1.os=s.os)(bare:AllBare s1.gens)(un:Un (frs X.stack) [] H H' s.heap h1)(ok:HOk X.prog X.w H' h1)(he:H' e=some (xr e C d))
  (kept:∀b o,h1.get? b=some o→b≠e→((∃u,H' b=some u)∨((∃o',s.heap.get? b=some o')∧b∉frs X.stack))→B.get? b=some o) (fl:Fly B X.stack e (.ref C) d .none h5) (up:h1.UpToSlots h5):
  Inv X pins σ H' { s1 with heap:=h5 }:=by
 have ne:∀b o,s.heap.get? b=some o→H b=none→b≠e:=fun b o q n z=>by
  have:=un.free b o q n (by simp)
  rw[z,he]at this
  cases this
 have keep:∀b o,s.heap.get? b=some o→H b=none→b∉frs X.stack→h5.get? b=some o:=fun b o q n nf=>
  fl.st b o (kept b o (un.keep b o q n nf (by simp)) (ne b o q n) (.inr ⟨⟨o,q⟩,nf⟩))
 have slot:∀b o,s.heap.get? b=some o→H b=none→b∈frs X.stack→∃sl,h5.get? b=some { o with slots:=sl }:=fun b o q n hf=>by
  obtain⟨sl,q1⟩:=un.slot b o q n hf (by simp)
  obtain⟨_,o',ho',hnf⟩:=I.stack.mem hf
  rw[q]at ho'
  cases ho'
  obtain⟨sl2,q2⟩:=up b _ q1 hnf
  exact⟨sl2,q2⟩
 have trk:∀c u,(∃v,H' c=some v)→h1.get? c=some u→c≠e→h5.get? c=some u:=fun c u hv q n=>fl.st c u (kept c u q n (.inl hv))
 refine I.call' (s':={ s1 with heap:=h5 }) (ch:=[]) os ⟨fun b o q n nf _=>keep b o q n nf,fun b o q n hf _=>slot b o q n hf,fun b o q n _=>un.free b o q n (by simp),fun b o q _=>?_,un.tups,un.frzs,un.tbls⟩ (fun b ob hb=>?_) bare (fun b hb=>by cases hb)
 ·by_cases hbe:b=e
  ·obtain⟨oe,vs,T,oT,ts,h1,_⟩:=fl.tr
   exact⟨oe,by rw[hbe];exact h1⟩
  ·cases hH:H b with
   | none=>
    by_cases hf:b∈frs X.stack
    ·obtain⟨sl,q2⟩:=slot b o q hH hf
     exact⟨_,q2⟩
    ·exact⟨o,keep b o q hH hf⟩
   | some u=>
    obtain⟨o',q1⟩:=un.there b o q (by simp)
    by_cases hf:b∈frs X.stack
    ·rw[I.stkFree b hf]at hH;cases hH
    ·exact⟨o',fl.st b o' (kept b o' q1 hbe (.inr ⟨⟨o,q⟩,hf⟩))⟩
 ·by_cases hbe:b=e
  ·subst hbe
   rw[he]at hb
   cases hb
   obtain⟨oe,vs,T,oT,ts,g1,g2,g3,g4,_⟩:=fl.tr
   exact ZlJ g1 g2 g3 g4
  ·refine(ok b ob hb).stay (fun c u hc q=>trk c u ?_ q ?_) (fun _ q=>q) fun _ _ q=>q
   ·rcases hc with z | z
    ·exact⟨ob,z▸hb⟩
    ·exact⟨_,z⟩
   ·rintro rfl
    rcases hc with z | z
    ·exact hbe z.symm
    ·rw[he]at z;cases z
end
noncomputable def sux (X:Cx)(e:Addr):Cx:={ X with A:=X.A.mark (some (.ref e)),calm:=false,xe:=fun _ _=>False }
section
variable {X:Cx}{pins:List (Addr×Obj)}{σ:St}{H:Hp}{s:Shared}{e:Addr}
theorem Inv.sux (I:Inv X pins σ H s)(e:Addr):Inv (L2.sux X e) pins σ H s:=
 ⟨⟨I.ok.mod,I.ok.kind,I.ok.glob,I.ok.blt,I.ok.above,I.ok.inj,I.ok.has,I.ok.cab,(fun z=>by cases z),I.ok.frames,I.ok.stk,I.ok.exf,I.ok.bs,I.ok.bsz,I.ok.noex,I.ok.exfs,I.ok.funs,I.ok.frf⟩,I.os,I.bare,I.base,I.loc,I.cell,I.free,I.freeC,I.pin,I.hok,I.len⟩
theorem Inv.unsux (hh:X.calm=true→X.A.handled=none)(I:Inv (L2.sux X e) pins σ H s):Inv X pins σ H s:=
 ⟨⟨I.ok.mod,I.ok.kind,I.ok.glob,I.ok.blt,I.ok.above,I.ok.inj,I.ok.has,I.ok.cab,hh,I.ok.frames,I.ok.stk,I.ok.exf,I.ok.bs,I.ok.bsz,I.ok.noex,I.ok.exfs,I.ok.funs,I.ok.frf⟩,I.os,I.bare,I.base,I.loc,I.cell,I.free,I.freeC,I.pin,I.hok,I.len⟩
theorem Inv.unbind {i:Nat}{x:Str}{v:Option Value}{m:Str→Option Value}{h':Heap}{t':Nat}(I:Inv X pins σ H s)(hN:X.N.Nodup)(hi:X.N[i]?=some x)(hm:∀(i:Nat) (x:Str) (v:V),X.N[i]?=some x→σ[i]?=some (some v)→Vis X.env.scope x→∃u,RelV v u∧Look X.env s.heap m x u)
  (hn':h'.Ns X.env.locals (fun y=>if y=x then v else m y)) (hs:Heap.SameBut X.env.locals s.heap h'):Inv X pins (σ.set i none) H { s with heap:=h',toks:=t' }:=by
 obtain⟨m0,hn,_⟩:=id I.loc
 obtain⟨oL,_,_,hoL,_⟩:=id hn
 have ab:∀b o,X.s₀.heap.get? b=some o→b≠X.env.locals:=fun b o e=>YAX (YAj (YAH e) I.ok.above)
 refine⟨I.ok,I.os,I.bare,⟨fun b o e n hb hx=>(hs.2 b (ab b o e)).trans (I.base.keep b o e n hb hx),fun b o e n hb hx=>?_,I.base.free,fun b o e hx=>?_,I.base.tups,I.base.frzs,I.base.tbls⟩,⟨_,hn',fun j y v' e1 e2 e3=>?_⟩,fun y c e=>?_,I.free,I.freeC,fun p hp=>?_,fun b ob e=>?_,by simpa using I.len⟩
 ·obtain⟨sl,e1⟩:=I.base.slot b o e n hb hx
  exact⟨sl,(hs.2 b (ab b o e)).trans e1⟩
 ·obtain⟨o',e1⟩:=I.base.there b o e hx
  exact⟨o',(hs.2 b (ab b o e)).trans e1⟩
 ·have hj:j≠i:=by
   rintro rfl
   by_cases hl:j<σ.length
   ·rw[List.getElem?_set_self hl]at e2;cases e2
   ·rw[List.set_eq_of_length_le (Nat.le_of_not_lt hl),YBO (Nat.le_of_not_lt hl)]at e2;cases e2
  rw[List.getElem?_set_ne (YAx hj)]at e2
  obtain⟨u',r',q⟩:=hm j y v' e1 e2 e3
  refine⟨u',r',?_⟩
  rcases q with⟨k,e⟩|⟨k,c,e,z⟩
  ·refine .inl ⟨k,?_⟩
   have:y≠x:=fun e=>hj (Zeg hN e1 (e▸hi))
   simp[this,e]
  ·exact .inr ⟨k,c,e,z.sameBut hs (I.cne y c e)⟩
 ·obtain⟨w',z⟩:=I.cell y c e
  exact⟨w',z.sameBut hs (I.cne y c e)⟩
 ·obtain⟨e,n,ne,nf,d⟩:=I.pin p hp
  exact⟨(hs.2 p.1 ne).trans e,n,ne,nf,d⟩
 ·refine(I.hok b ob e).stay (fun c w' hc q=>(hs.2 c ?_).trans q) (fun _ q=>q) fun _ _ q=>q
  rintro rfl
  rcases hc with z | hc
  ·rw[←z,I.free]at e;cases e
  ·rw[I.free]at hc;cases hc
end
abbrev TH:=Addr→Addr→Ends→St→Hp→Prop
def PHs (X:Cx)(hs:List ExceptHandler)(th:TH):Prop:=∀(pins:List (Addr×Obj)) (s:Shared) (σ:St) (H:Hp) (D:Ends) (e C:Addr) (d:Option Addr) (B:Heap),(∀h5,Fly B X.stack e (.ref C) d .none h5→s.heap.UpToSlots h5→Inv X pins σ H { s with heap:=h5 })→H e=some (xr e C d)→Fly B X.stack e (.ref C) d .none s.heap→th e C D σ H →
 wpAny (model X.prog X.w) X.A (handleBy (.ref e) X.env hs) (SP X pins D) X.xe s
noncomputable def unE (i:Nat)(D:Ends):Ends:={ nx:=fun σ H=>D.nx (σ.set i none) H,rt:=D.rt,bk:=fun σ H=>D.bk (σ.set i none) H,ct:=fun σ H=>D.ct (σ.set i none) H }
def hAs (K:Frag)(C0:Addr)(i:Nat)(ts:TS)(tr:TH):TH:=fun e C D σ H=>∃b,PySem.W.exmOne K (.ref C) (.ref C0)=some b∧if b=true then ts (unE i D) (σ.set i (some (.ref e))) H else tr e C D σ H
def hNone:TH:=fun _ _ _ _ _=>False
theorem Zmn {X:Cx}:PHs X [] hNone:=fun _ _ _ _ _ _ _ _ _ _ _ _ h=>h.elim
theorem Zia {M:Model}{h:Heap}{e C:Addr}{o:Obj}(h1:h.get? e=some o)(h2:o.cls=.ref C):Looks M h (typeOf (.ref e)) (.ref C):=by
 intro A Q E s k q
 have h1':=k _ _ h1
 obtain⟨hp,g,d,tk,os⟩:=s
 unfold typeOf
 repeat (first | (with_reducible refine YBT h1' ?_;rw[h2]) | wp_step)
 exact q
section
variable {X:Cx}{x n:Str}{np pos:Pos}{b₀:Stmt}{suite:List Stmt}{rest:List ExceptHandler}{ts:TS}{tr:TH}{C0:Addr}{i:Nat}
theorem Zo0 (hc:X.calm=true→X.A.handled=none)(hg:Gl X x)(hm:X.mg x=some (.ref C0))(hN:X.N.Nodup)(hi:X.N[i]?=some n)(hl:X.env.scope.names.lookup n=some .local)(hs:∀e,PSs (sux X e) (b₀::suite) ts)(hr:PHs X rest tr)
  (hdb:(x == ("__debug__":Str))=false:=by decide):PHs X (.ExceptHandler (some (.Name x np)) (some n) (b₀::suite) pos::rest) (hAs X.K C0 i ts tr):=by
 intro pins s σ H D e C d B cv he fl h
 obtain⟨b,hb,h⟩:=h
 have I:Inv X pins σ H s:=cv s.heap fl (Heap.UpToSlots.refl _)
 have J:=I.sux e
 refine wpAny_handleBy_cons (codeAny_handlers_test (Zbv (X:=sux X e) J hg hm ?_ hdb)) (by intro q;cases q)
 obtain⟨oe,vs,T,oT,tt,g1,g2,_⟩:=id fl.tr
 refine(PySem.W.exm_one (M:=model X.prog X.w) I.kIn (Zia g1 g2) hb).here ?_
 have hp:(X.env.scope.kind == .class || (X.env.scope.kind == .module&&X.env.locals != X.env.globals))=false:=by rw[I.ok.kind];rfl
 cases b with
 | false=>exact hr pins s σ H D e C d B cv he fl h
 | true=>
  refine codeAny_handlers_suite_as (ZbM fl fun h6 fl6 up6=>?_)
  have J6:=(cv h6 fl6 up6).sux e
  refine Zc2 (X:=sux X e) (i:=i) J6 hN hi (.inl hl) (v:=.ref e) rfl (fun s7 I7=>?_) (.inr hl)
  refine YBF (hs e pins s7 _ H (unE i D) I7 h) (fun f s8 q=>?_) fun _ _ z=>False.elim z
  have goes:∀ {σ8:St} {H8:Hp} {Q:Unit→Shared→Prop} (I8:Inv (sux X e) pins σ8 H8 s8),(∀s9,Inv X pins (σ8.set i none) H8 s9→Q () s9)→wpAny (model X.prog X.w) X.A (do bindName X.env n .none;unbindBehindTheSuite X.env n pos) Q X.xe s8:=fun {σ8 H8 Q} I8 k=>by
   have I9:=I8.unsux hc
   obtain⟨m,hn,hm'⟩:=I9.loc
   exact wpAny_nameGoes_keeps hl hn hp fun h' v hn' sb=>k _ (I9.unbind hN hi hm' hn' sb)
  cases f with
  | next=>
   obtain⟨σ8,H8,I8,q8⟩:=q
   exact goes I8 fun s9 I9=>⟨_,H8,I9,q8⟩
  | brk=>
   obtain⟨σ8,H8,I8,q8⟩:=q
   exact goes I8 fun s9 I9=>⟨_,H8,I9,q8⟩
  | cont=>
   obtain⟨σ8,H8,I8,q8⟩:=q
   exact goes I8 fun s9 I9=>⟨_,H8,I9,q8⟩
  | ret u=>
   obtain⟨v,σ8,H8,I8,r8,q8⟩:=q
   exact goes I8 fun s9 I9=>⟨v,_,H8,I9,r8,q8⟩
def tTry (tb:TSx)(th:TH):TS:=fun D σ H=>tb D (fun σ' cls oe H'=>∃e C,cls=.ref C∧oe=some e∧th e C D σ' H') σ H
theorem Zmm {body:List Stmt}{h₀:ExceptHandler}{hs:List ExceptHandler}{tb:TSx}{th:TH}(hst:X.stack=X.env::X.outer)(hfr:X.env.frame=some X.env.locals)(hb:PSsx X body tb)(hh:PHs X (h₀::hs) th):
  PS X (.Try body (h₀::hs) [] [] pos) (tTry tb th):=by
 intro pins s σ H D I h
 refine wpAny_Try_except (YBF (hb pins s σ H D _ I h) (fun f s1 q=>?_) fun ev s1 q=>?_)
 ·cases f with
  | next=>exact YDM q
  | ret v=>exact q
  | brk=>exact q
  | cont=>exact q
 ·obtain⟨σ',H2,s2,I2,e,C,d,H',h1,B,rfl,os,bare,un,ok,he,kept,fl,up,e',C',ec,ee,hth⟩:=q
  cases ec
  cases ee
  have fr:X.A.frames=some (X.env::X.outer):=by rw[←hst];exact I.ok.frames
  rw[hst]at fl
  refine ZeZ fr hfr fl fun h4 fl4 up4=>ZbM (s:={ s1 with heap:=h4 }) fl4 fun h5 fl5 up5=>?_
  rw[←hst]at fl5
  exact hh pins { s1 with heap:=h5 } σ' H' D e C d B (fun h6 fl6 up6=>Zhj (s1:=s1) I2 os bare un ok he kept fl6 (up.trans (up4.trans (up5.trans up6)))) he fl5 hth
end
end L2
namespace L2
open PySem PySem.Spec PyProof.Rows
open PySem.W (Frag findIn specialIn typeIn mroIn clsIn subIn kitOne kitCls InstAt Looks)
section
variable {X:Cx}{pins:List (Addr×Obj)}{σ:St}{H:Hp}{s:Shared}{e C:Addr}{fs:List (Str×V)}{f:Str}{v:V}{A:Around}{E:Value→Shared→Prop}
theorem ZjL {d:Option Addr}(I:Inv X pins σ H s)(h:H e=some (xr e C d)):∃(o:Obj) (vs:Array Value),s.heap.get? e=some o∧o.cls=.ref C∧o.dict=d∧o.data=.fields vs:=(I.hok e _ h).1
theorem XAny.inst (I:Inv X pins σ H s)(x:XAny H e C fs):∃(ox:Obj) (od:Option Obj),InstAt s.heap e ox C od∧∀name,∃r,(match od with | some o=>PySem.W.lookIn name o | none=>some none)=some r∧RelO (fs.lookup name) r:=by
 cases x with
 | un h=>exact h.inst I
 | bare h=>
  obtain⟨o,vs,h1,h2,h3,h4⟩:=ZjL I h
  exact⟨o,none,⟨h1,h2,by unfold PySem.W.notCls;rw[h4],by rw[h3];trivial⟩,fun name=>⟨none,rfl,by trivial⟩⟩
 | @full d _ h h' hne=>
  obtain⟨o,vs,h1,h2,h3,h4⟩:=ZjL I h
  obtain⟨⟨_,mA,hn,hr,_⟩,_⟩:=I.hok d _ h'
  obtain⟨od,hod,hl⟩:=Zds hn
  exact⟨o,some od,⟨h1,h2,by unfold PySem.W.notCls;rw[h4],by rw[h3];exact hod⟩,fun name=>⟨mA name,hl name,hr name⟩⟩
theorem ZnH {b:Bool}{Q:Value→Shared→Prop}(I:Inv X pins σ H s)(x:XAny H e C fs)(c:Xc X.K C)(n:NoAttr X.K C f)(l:fs.lookup f=some v)(h:∀u s',Inv X pins σ H s'→RelV v u→Q u s'):wpAny (model X.prog X.w) A (getAttr (.ref e) f b) Q E s:=by
 obtain⟨ox,od,J,hr⟩:=x.inst I
 obtain⟨r,hl,ro⟩:=hr f
 rw[l]at ro
 obtain⟨u,rfl,ru⟩:=RelO.some_of ro
 refine ZgM I.kIn J c ?_ (Zfi ru) (h u _ (I.tok _) ru)
 cases od with
 | none=>cases hl
 | some o=>exact PySem.W.findObj_own c.hd n rfl hl
end
def ZjQ (K:Frag)(ta:TE)(f:Str):TE:=fun σ H Q=>ta σ H fun x H1=>∃e C fs v,x=.ref e∧XAny H1 e C fs∧Xc K C∧NoAttr K C f∧fs.lookup f=some v∧Q v H1
theorem Zgn {X:Cx}{K:Frag}{e:Expr}{f:Str}{pos:Pos}{ta:TE}(hK:X.K=K)(he:PE X e ta)(hb:attributeBase e f X.env (eval e X.env)=eval e X.env):PE X (.Attribute e f pos) (ZjQ K ta f):=by
 subst hK
 intro pins s σ H Q I h
 refine ZiK hb (thn (he pins s σ H _ I h) fun u s1 ⟨x,H1,I1,rx,a,C,fs,v,ex,xa,c,n,l,q⟩=>?_)
 subst ex
 obtain rfl:u=Value.ref a:=rx
 exact ZnH I1 xa c n l fun u' s2 I2 ru=>⟨v,H1,I2,ru,q⟩
inductive TyR (K:Frag) (H:Hp):V→Value→Prop where
 | ty {x:V} {t:Value} (h:TyX K H x t):TyR K H x t
 | exc {e C:Addr} {fs:List (Str×V)} (x:XAny H e C fs) (i:Xi K C):TyR K H (.ref e) (.ref C)
theorem Zao {X:Cx}{K:Frag}(hK:X.K=K):ZcD X (.builtin "isinstance") (fun xs H Q=>∃x c t k b,xs=[x,c]∧clsV c=some k∧TyR K H x t∧kitOne K t k=some b∧Q (.bl b) H):=by
 subst hK
 rintro pins s σ H xs us Q I r ⟨x,c,t,k,b,rfl,hk,ty,e,q⟩
 cases ty with
 | ty h=>exact Zf2 pins s σ H _ us Q I r ⟨x,c,t,k,b,rfl,hk,h,e,q⟩
 | exc xa i=>
  obtain⟨u,v,rfl,ru,rv⟩:=r.two
  have hv:v=k:=by
   cases c with
   | ref a=>cases hk;exact rv
   | ty n=>cases hk;exact rv
   | _=>cases hk
  subst hv
  cases ru
  obtain⟨ox,od,J,_⟩:=xa.inst I
  exact YBG (Zgx i) I.kIn J e (fun z=>nomatch z) fun tk=>⟨.bl b,H,I.tok _,rfl,q⟩
theorem Zlv {K:Frag} {C D:Addr} {m1 m2:List Value} {b:Bool} (c:ClsOk K C m1) (d:ClsOk K D m2) (hb:m2.contains (.type "BaseException")=true) (h:m1.contains (.ref D)=b):PySem.W.exmOne K (.ref C) (.ref D)=some b:=by
 obtain⟨cd,e1,e2⟩:=c.cd
 obtain⟨cd',e3,e4⟩:=d.cd
 have hs:PySem.W.subIn K (.ref D) (.type "BaseException")=some true:=by
  unfold PySem.W.subIn PySem.W.mroIn
  dsimp only
  rw[e3,YBy,e4,d.ne,hb]
  rfl
 unfold PySem.W.exmOne
 rw[YAO (by rw[hs];rfl)]
 unfold PySem.W.kitCls
 dsimp only
 rw[e3,d.ty]
 simp only[Option.isSome_some,YCC,beq_self_eq_true,if_true]
 unfold PySem.W.subIn PySem.W.mroIn
 dsimp only
 rw[e1,YBy,e2,c.ne,h]
 rfl
end L2
namespace L2
open PySem PySem.Spec PyProof.Rows
open PySem.W (Frag)
theorem ObjOk.there {P:Program}{w:World}{H:Hp}{h:Heap}{a:Addr}:∀ {o:HO},ObjOk P w H h a o→∃u,h.get? a=some u
 | .lst _,x=>by obtain⟨_,_,_,_,e⟩:=x;exact⟨_,e⟩
 | .tup _,x=>by obtain⟨_,_,_,ob,e,_⟩:=x;exact⟨_,e⟩
 | .dK _,x=>by obtain⟨_,_,_,_,ob,_,_,e,_⟩:=x;exact⟨_,e⟩
 | .dT _,x=>by obtain⟨_,_,_,_,ob,_,_,e,_⟩:=x;exact⟨_,e⟩
 | .set _ _,x=>by obtain⟨ob,_,_,_,e,_⟩:=x;exact⟨_,e⟩
 | .ins _ _ _,x=>by obtain⟨_,_,_,e,_⟩:=x;exact⟨_,e⟩
 | .own _,x=>x
 | .xd _,x=>by obtain⟨_,⟨ob,_,_,e,_⟩,_⟩:=x;exact⟨_,e⟩
 | .met _ _,x=>⟨_,x⟩
 | .rng _ _,x=>by obtain⟨_,_,_,e⟩:=x;exact⟨_,e⟩
 | .frz _ _,x=>⟨_,x.1⟩
 | .tbl _,x=>⟨_,x⟩
 | .ext _,x=>x.2.1
theorem HOk.none_of {P:Program}{w:World}{H:Hp}{h:Heap}{a:Addr}(ok:HOk P w H h)(n:h.get? a=none):H a=none:=by
 cases q:H a with
 | none=>rfl
 | some o=>
  obtain⟨u,hu⟩:=(ok a o q).there
  rw[n]at hu
  cases hu
theorem Inv.laid2 {X:Cx}{pins:List (Addr×Obj)}{σ:St}{H:Hp}{s s':Shared}{a:Addr}{o:HO}(I:Inv X pins σ H s)(os:s'.os=s.os)(hg:s'.gens=s.gens)(k:∀b u,s.heap.get? b=some u→s'.heap.get? b=some u)(nw:s.heap.get? a=none)
  (new:ObjOk X.prog X.w (upd H a o) s'.heap a o):Inv X pins σ (upd H a o) s':=by
 have hn:=I.hok.none_of nw
 have ne:∀b u,s.heap.get? b=some u→b≠a:=fun b u q z=>by rw[z,nw]at q;cases q
 have neH:∀b u,H b=some u→b≠a:=fun b u q=>Zak q hn
 refine I.call' (ch:=[]) os ⟨fun b u q _ _ _=>k b u q,fun b u q _ _ _=>⟨u.slots,k b u q⟩,fun b u q n _=>by rw[Zae (ne b u q)];exact n,fun b u q _=>⟨u,k b u q⟩,fun b xs q=>by rw[Zae (neH b _ q)];exact q,fun b u v q=>by rw[Zae (neH b _ q)];exact q,fun b ps q=>⟨#[],by rw[Zae (neH b _ q),Array.append_empty];exact q⟩⟩
  (fun b u q=>?_) (by rw[hg];exact I.bare) (fun b hb=>by cases hb)
 by_cases hb:b=a
 ·subst hb
  rw[Zad]at q
  cases q
  exact new
 ·rw[Zae hb]at q
  exact(I.hok b u q).stay (fun c w' _ q=>k c w' q) (fun c q=>by rw[Zae (neH c _ q)];exact q) fun c xs q=>by rw[Zae (neH c _ q)];exact q
section
variable {X:Cx}
def signs (l:List Nat):List (List Nat):=l.map fun c=>[c]
theorem ZfR {l:List Nat}{acc:Array Value}(h:ItemsOf (SignAt ⟨l.toArray⟩) acc (⟨l.toArray⟩:Str).cps.size):Vals ((signs l).map tx) acc.toList:=by
 obtain⟨h1,h2⟩:=h
 have hl:(⟨l.toArray⟩:Str).cps.size=l.length:=by show l.toArray.size=_;simp
 rw[hl]at h1
 have gen:∀(l:List Nat) (us:List Value),us.length=l.length→(∀(j:Nat) (v:Value),us[j]?=some v→∃(c:Nat) (u:Tok),l[j]?=some c∧v=Value.str ⟨#[c]⟩ u)→Vals ((signs l).map tx) us:=by
  intro l
  induction l with
  | nil=>
   intro us hl _
   have:us=[]:=YDG hl
   subst this
   exact .nil
  | cons c l ih=>
   intro us hl h
   cases us with
   | nil=>cases hl
   | cons u us=>
    obtain⟨c',t,e,rfl⟩:=h 0 u rfl
    cases e
    refine .cons ⟨t,rfl⟩ (ih us (by simpa using hl) fun j v e=>h (j+1) v e)
 refine gen l acc.toList (by rw[YAN,h1]) fun j v e=>?_
 rw[YAl]at e
 obtain⟨c,u,e1,e2⟩:=h2 j v e
 exact⟨c,u,by simpa using e1,e2⟩
theorem ZbY (hc:X.calm=true):ZcD X (.type "list") (fun xs H Q=>∃l,xs=[tx l]∧l.length≤1000∧NewL ((signs l).map tx) H Q):=by
 rintro pins s σ H xs us Q I r ⟨l,rfl,hz,q⟩
 obtain⟨u,rfl,t,rfl⟩:=r.one
 have hl:(⟨l.toArray⟩:Str).cps.size=l.length:=by show l.toArray.size=_;simp
 refine call_list_str (I.ok.hd hc) _ t (fun h' tk acc c k e it=>?_) (by rw[hl];exact YCv (Zdg hz))
 refine⟨.ref s.heap.objs.size,_,I.laid (t':=tk) k (YAQ _) ?_,rfl,q _ I.fresh⟩
 exact⟨by unfold signs;rw[YAE,YAE];exact YCv (Zdg hz),acc.toList,c,ZfR it,by rw[YCl];exact e⟩
theorem ZiH (hc:X.calm=true):ZcD X (.builtin "all") (fun xs H Q=>∃(a:Addr) (bs:List Bool),xs=[.ref a]∧H a=some (.lst (bs.map V.bl))∧Q (.bl (bs.all id)) H):=by
 rintro pins s σ H xs us Q I r ⟨a,bs,rfl,ha,q⟩
 obtain⟨u,rfl,ru⟩:=r.one
 cases ru
 obtain⟨_,its,n,r',hlen,e⟩:=I.lstM ha
 have hl:s.heap.IsList a its.toArray:=PySem.IsL.isList e
 have hne:a≠s.heap.objs.size:=YAX (YAH e)
 refine call_all_walkS (YDA hl ?_)
 have hL:its.toArray.size=bs.length:=by rw[YAI,←r'.length,YAE]
 have W:=(Walks.list (prog:=X.prog) (w:=X.w) (A:=X.A.in1) (by simpa using I.ok.hd hc) s.heap.objs.size a hne its.toArray).toS
 refine⟨s.heap.objs.size,_,_,_,_,_,_,fun i=>bs.getD i true,rfl,W,⟨⟨_,YAG _ rfl,rfl,rfl⟩,hl.push _⟩,?_,fun s' hm=>?_⟩
 ·intro i v s Q E hv hQ
  have e':its[i]?=some v:=by simpa using hv
  obtain⟨x,hx,rx⟩:=ZcE r' e'
  rw[YAo]at hx
  cases hb:bs[i]? with
  | none=>rw[hb]at hx;cases hx
  | some b=>
   rw[hb]at hx
   cases hx
   obtain rfl:v=Value.bool b:=rx
   have:bs.getD i true=b:=by rw[YAU,hb];rfl
   have hQ':Q (bs.getD i true) s:=hQ
   rw[this]at hQ'
   exact YCH hQ'
 ·have ea:(List.range its.toArray.size).all (fun i=>bs.getD i true)=bs.all id:=by
   rw[hL]
   rw[YBQ,YBE,YBE]
   constructor
   ·intro h b hb
    obtain⟨i,hi,rfl⟩:=YCt hb
    have:=h i (YBA.mpr hi)
    rw[YAU,YAM hi]at this
    exact this
   ·intro h i hi
    have hi:=YBA.mp hi
    rw[YAU,YAM hi]
    exact h _ (YBh hi)
  rw[ea]
  have I2:Inv X pins σ H s':=I.call' (ch:=[]) hm.os (Un.kept fun b o q=>hm.heap b o (fun z=>?_) (YAB _ q)) (I.hok.kept fun b o q=>hm.heap b o (fun z=>?_) (YAB _ q)) (by rw[show s'.gens=s.gens from hm.gens];exact I.bare) (fun b hb=>by cases hb)
  ·exact⟨.bl _,H,I2,rfl,q⟩
  ·have z:b=s.heap.objs.size:=by simpa using z
   rw[z]at q;exact absurd (YAH q) (YAv _)
  ·have z:b=s.heap.objs.size:=by simpa using z
   rw[z]at q;exact absurd (YAH q) (YAv _)
noncomputable def tset (P:Program)(w:World)(a:Addr)(ls:List (List Nat)):HO:=.ext fun h=>TxSet P w h a ls (!Za7 w)
theorem Zks {P:Program}{w:World}{H:Hp}{h:Heap}{a:Addr}{ls:List (List Nat)}(x:TxSet P w h a ls (!Za7 w)):ObjOk P w H h a (tset P w a ls):=by
 obtain⟨o,es,ep,t,ms,h1,r⟩:=id x
 exact⟨x,⟨o,h1⟩,fun g1 g2 y k=>y.keep k⟩
noncomputable def ddl (ls:List (List Nat)):List (List Nat):=ls.foldl addT []
theorem Zex {ls:List (List Nat)}:dd (fun i=>ls.getD i []) ls.length=ddl ls:=by
 unfold dd ddl
 congr 1
 apply YCq
 ·simp
 ·intro n h1 h2
  simp[h2]
theorem ZdH (hc:X.calm=true):ZcD X (.type "set") (fun xs H Q=>∃ls:List (List Nat),ls.length≤1000∧((∃l,xs=[tx l]∧ls=signs l)∨∃a,xs=[.ref a]∧SqL X.K H a (ls.map tx))∧∀p,H p=none→Q (.ref p) (upd H p (tset X.prog X.w p (ddl ls)))):=by
 rintro pins s σ H xs us Q I r ⟨ls,hz,hx,q⟩
 have hb:ls.length+1<scanBound:=by show _<4096;omega
 have fin:∀(h':Heap) (tk:Nat),TxSet X.prog X.w h' s.heap.objs.size (ddl ls) (!Za7 X.w)→(∀b o,s.heap.get? b=some o→h'.get? b=some o)→EP X pins σ Q (.ref s.heap.objs.size) { s with heap:=h',toks:=tk }:=fun h' tk hS k=>
  ⟨.ref s.heap.objs.size,_,I.laid (t':=tk) k (YAQ _) (Zks hS),rfl,q _ I.fresh⟩
 rcases hx with⟨l,rfl,rfl⟩|⟨a,rfl,hq⟩
 ·obtain⟨u,rfl,t,rfl⟩:=r.one
  have hl:(signs l).length=l.length:=by unfold signs;rw[YAE]
  have e0:dd (fun i=>[l.getD i 0]) l.length=ddl (signs l):=by
   unfold dd ddl signs
   congr 1
   apply YCq
   ·simp
   ·intro n h1 h2
    have:n<l.length:=by simpa using h2
    simp[this]
  refine Zgg (I.ok.hd hc) (Zfz (prog:=X.prog) (w:=X.w) (s:=s) (l:=l) (t:=t)) F.sub_str_set F.sub_str_frozenset (by decide) (by rw[←hl];exact hb) fun h' tk hS k _=>?_
  rw[e0]at hS
  exact fin h' tk hS k
 ·obtain⟨u,rfl,ru⟩:=r.one
  cases ru
  obtain⟨its,rv,p,_⟩:=I.list hq
  refine Zgg (I.ok.hd hc) (ZfA (prog:=X.prog) (w:=X.w) (s:=s) p.isList rv) F.sub_list_set F.sub_list_frozenset (by decide) hb fun h' tk hS k _=>?_
  rw[Zex]at hS
  exact fin h' tk hS k
theorem ZdG (hc:X.calm=true):ZcD X (.builtin "sorted") (fun xs H Q=>∃a ls,xs=[.ref a]∧H a=some (tset X.prog X.w a ls)∧ls.length<64∧NewL ((Za4 ls).map tx) H Q):=by
 rintro pins s σ H xs us Q I r ⟨a,ls,rfl,ha,h64,q⟩
 obtain⟨u,rfl,ru⟩:=r.one
 cases ru
 have hS:TxSet X.prog X.w s.heap a ls (!Za7 X.w):=(I.hok a _ ha).1
 refine ZgQ (I.ok.hd hc) hS h64 fun s' b us e nw k hg ho hb rv=>?_
 have hl:(Za4 ls).length≤sizeLine:=by rw[(ZaJ ls).length_eq];exact YAP (YCv h64) (by rw[sizeLine_eq];decide)
 exact⟨.ref b,_,I.laid2 (o:=.lst ((Za4 ls).map tx)) ho hg k nw ⟨by rw[YAE];exact hl,us,e,rv,hb⟩,rfl,q b (I.hok.none_of nw)⟩
end
theorem ZaO {X:Cx}{x:Str}{l:List Nat}{j:Nat}{pos:Pos}(h:x=⟨l.toArray⟩):PE X (.Constant (.str x) j pos) (tC (tx l)):=by subst h;exact Zmp
theorem Zjd {X:Cx} {x y:Str} {pos:Pos} (hg:Gl X x) (hm:∃t,X.mg x=some (.str y t)) (hd:(x == ("__debug__":Str))=false:=by decide):PE X (.Name x pos) (tC (.str y)):=by
 obtain⟨t,h⟩:=hm
 exact Zee hg h ⟨t,rfl⟩ hd
theorem Zcp {X:Cx} {x:Str} {y:Int} {pos:Pos} (hg:Gl X x) (hm:∃t,X.mg x=some (.int y t)) (hd:(x == ("__debug__":Str))=false:=by decide):PE X (.Name x pos) (tC (.int y)):=by
 obtain⟨t,h⟩:=hm
 exact Zee hg h ⟨t,rfl⟩ hd
section
variable {CX:CXT}{P:Program}{w:World}{K:PySem.W.Frag}{mg:Str→Option Value}{base:Heap}{N:List Str}{qual:Str}{scope:Scope}{f:Addr}{cd:Value}{A:Around}{outer:List Env}{s:Shared}{H:Hp}{E:XK}{X:Cx}{e:Addr}
theorem cxPr:(cxOf CX P w K mg base N qual scope f cd A outer s H E).prog=P:=rfl
theorem cxWo:(cxOf CX P w K mg base N qual scope f cd A outer s H E).w=w:=rfl
theorem suxK:(sux X e).K=X.K:=rfl
theorem ZnQ:(sux X e).prog=X.prog:=rfl
theorem ZnP:(sux X e).w=X.w:=rfl
end
end L2
namespace L2
open PySem PySem.Spec PyProof.Rows
open PySem.W (Frag KeqHits)
theorem Zdy {κ:Type}[DecidableEq κ]{A:Around}{s:Shared}{kb:List (κ×Value)}(nd:(kb.map (·.1)).Nodup):∀(r:List (κ×Value)),(∀x∈r,x∈kb)→KeqHits A s kb r true
 | [],_=>.nil
 | (k,v)::r,hm=>by
  have h1:valueAt kb k=some v:=by
   unfold valueAt
   have hin:=hm (k,v) YAa
   obtain⟨y,hy,e⟩:∃y,kb.find? (fun kv=>kv.1=k)=some y∧y=(k,v):=by
    clear hm
    induction kb with
    | nil=>cases hin
    | cons z kb ih=>
     rw[YAf,YBr]at nd
     rcases YAK.mp hin with e | e
     ·subst e;exact⟨_,by simp,rfl⟩
     ·have hz:¬z.1=k:=fun e'=>nd.1 (e'▸YCP (f:=(·.1)) e)
      obtain⟨y,hy,e2⟩:=ih nd.2 e
      exact⟨y,by rw[List.find?_cons_of_neg (by simpa using hz)];exact hy,e2⟩
   rw[hy,e];rfl
  exact .hit (e:=true) (b:=true) h1 (SeqAt.EqAt.same _) (Zdy nd r fun x hx=>hm x (YAW _ hx))
def rEqS (K:Frag)(neg:Bool):R2:=fun x y H Q=>rEqD K neg x y H Q∨∃(a:Addr) (kvs:List (Key×V)),x=.ref a∧y=.ref a∧H a=some (.dK kvs)∧Q (.bl (!neg)) H
section
variable {X:Cx}{K:Frag}
theorem Zpw (hK:X.K=K)(hu:X.A.units+64<cLine):OpR X (compareOp .Eq) (rEqS K false):=by
 subst hK
 intro pins s σ H x y v u Q I rx ry h
 rcases h with h | ⟨a,kvs,rfl,rfl,e,q⟩
 ·exact Zj5 hu pins s σ H x y v u Q I rx ry h
 ·cases rx;cases ry
  obtain⟨_,hm,vs,_,d⟩:=ZjF I.hok e
  have nd:(vs.map (·.1)).Nodup:=let ⟨_,_,_,_,_,_,_,_,n⟩:=d;n
  exact PySem.W.keq_eq hm hm d d (by omega) (fun _=>Zdy nd vs fun _ hx=>hx) ⟨.bl true,H,I,by simp;rfl,q⟩
theorem Zmt (hK:X.K=K)(hu:X.A.units+64<cLine):OpR X (compareOp .NotEq) (rEqS K true):=by
 subst hK
 intro pins s σ H x y v u Q I rx ry h
 rcases h with h | ⟨a,kvs,rfl,rfl,e,q⟩
 ·exact Zj4 hu pins s σ H x y v u Q I rx ry h
 ·cases rx;cases ry
  obtain⟨_,hm,vs,_,d⟩:=ZjF I.hok e
  have nd:(vs.map (·.1)).Nodup:=let ⟨_,_,_,_,_,_,_,_,n⟩:=d;n
  exact PySem.W.keq_ne hm hm d d (by omega) (fun _=>Zdy nd vs fun _ hx=>hx) ⟨.bl false,H,I,by simp;rfl,q⟩
end
end L2
namespace L2
open PySem PySem.Spec PyProof.Rows
open PySem.W (Frag)
theorem Zbh {P:Program}{w:World}{K:Frag}{mg:Str→Option Value}{base:Heap}{N:List Str}{qual:Str}{scope:Scope}{f:Addr}{cd:Value}{A:Around}{outer:List Env}{s0:Shared}{H0:Hp}{E:XK}:
  ZbO (CXr P w) (cxOf (CXr P w) P w K mg base N qual scope f cd A outer s0 H0 E) E:=by
 intro pins σ H s ev s' I hx
 generalize hX:cxOf (CXr P w) P w K mg base N qual scope f cd A outer s0 H0 E=X at I hx ⊢
 have eA:X.A=A.deeper (envOfC qual scope s0.heap.objs.size f cd):=by rw[←hX];rfl
 have eS:X.stack=envOfC qual scope s0.heap.objs.size f cd::outer:=by rw[←hX];rfl
 have eF:X.fs=frs outer:=by rw[←hX];rfl
 have e0:X.s₀=s0:=by rw[←hX];rfl
 have eH:X.H₀=H0:=by rw[←hX];rfl
 have eX:X.ex=[]:=by rw[←hX];rfl
 have ePr:X.prog=P:=by rw[←hX];rfl
 have eW:X.w=w:=by rw[←hX];rfl
 have hxe:∀ev s',wpAny (model P w) (A.deeper (envOfC qual scope s0.heap.objs.size f cd)) (leaving (envOfC qual scope s0.heap.objs.size f cd) ev) (fun _ s''=>CXr P w outer H0 s0 E ev s'') (fun e' s''=>CXr P w outer H0 s0 E e' s'') s'→X.xe ev s':=by
  intro ev s' z;rw[←hX];exact z
 obtain⟨e,C,d,H',h1,B,rfl,hos,hbare,un,ok,he,kept,fl,up,hE⟩:=hx
 refine hxe _ _ ?_
 have hfr:(A.deeper (envOfC qual scope s0.heap.objs.size f cd)).frames=some (envOfC qual scope s0.heap.objs.size f cd::outer):=by rw[←eA,←eS];exact I.ok.frames
 have J:Inv X pins σ H' { s' with heap:=h1 }:=I.call' (s':={ s' with heap:=h1 }) (ch:=[]) hos un (by rw[ePr,eW];exact ok) hbare (fun b hb=>by cases hb)
 rw[eS]at fl
 refine Zha hfr rfl fl fun h' fl' up'=>?_
 have os:s'.os=s0.os:=by rw[hos,←e0];exact I.os
 have un':Un (frs outer) [] H0 H' s0.heap h1:=by
  have:=J.base
  rwa [eF,eX,eH,e0]at this
 refine⟨e,C,d,H',h1,B,rfl,os,hbare,un',ok,he,fun b o hb hne hc=>?_,fl',up.trans up',hE⟩
 rcases hc with hu | ⟨⟨o',ho'⟩,hn⟩
 ·exact kept b o hb hne (.inl hu)
 ·refine kept b o hb hne (.inr ⟨?_,fun z=>?_⟩)
  ·have:=I.base
   rw[eF,eX,eH,e0]at this
   exact this.there b o' ho' (by simp)
  ·rw[eS]at z
   have z':b=s0.heap.objs.size∨b∈frs outer:=by
    have:=z
    unfold frs at this
    rw[YDR]at this
    simpa [envOfC,frs] using this
   rcases z' with z' | z'
   ·rw[z']at ho';exact absurd (YAH ho') (YAv _)
   ·exact hn z'
end L2
namespace L2
open PySem PySem.Spec PyProof.Rows
section
variable {prog:Program}{w:World}{A:Around}{E:Value→Shared→Prop}{s:Shared}
theorem ZeJ {it t:Addr}{i:Nat}{its:Array Value}{x:Value}{Q:Value→Shared→Prop}(hi:s.heap.IsTupleIter it t i)(ht:s.heap.IsTuple t its)(hx:its[i]?=some x)
  (q:∀h',h'.IsTupleIter it t (i+1)→Heap.SameBut it s.heap h'→Q x { s with heap:=h' }):wpAny (model prog w) A (Builtin.SmallTypes.nextOf (.ref it)) Q E s:=by
 obtain⟨o,ho,hc,hd⟩:=id hi
 obtain⟨u,hu,_,_,hud⟩:=ht
 unfold Builtin.SmallTypes.nextOf
 refine YAA (wpAny_callSpecial?_slot (name:=Str.ofString "__next__") hi.typeIs YCi (YBg YCi hi.typeIs F.entry_tuple_iterator_next ?_ (F.args_tuple_iterator_next_1 _)))
 show wpAny _ _ (field (.ref it) 0 >>= _) _ _ s
 refine YAA (YBd ho hd (x:=.ref t) rfl ?_)
 show wpAny _ _ (if (Value.ref t == Value.none)=true then _ else _) _ _ s
 rw[YAJ (show ¬((Value.ref t == Value.none)=true) from YAC)];show wpAny _ _ (field (.ref it) 1 >>= _) _ _ s
 refine YAA (YBd ho hd (x:=.int i 0) rfl ?_);show wpAny _ _ (seqItems? (.ref t) >>= _) _ _ s
 refine YAA (YCE hu hud ?_)
 simp only[YBa,hx]
 refine YAA (YBR ho hd (by simp) (YAD ⟨x,rfl,YAD (q _ ⟨_,YBP _ ho (YDD (YCA hd _)),(Obj.cls_mapFields ..).trans hc,by rw[YCA hd];simp[rawInt]⟩ (YAd ..))⟩))
theorem ZfB {it t:Addr}{i:Nat}{its:Array Value}{Q:Value→Shared→Prop}(hh:A.handled=none)(hi:s.heap.IsTupleIter it t i)(ht:s.heap.IsTuple t its)(hx:its[i]?=none)
  (q:∀h' e,Heap.ExtBut it s.heap h'→(∃o,h'.get? e=some o∧o.cls=.type "StopIteration")→E (.ref e) { s with heap:=h' }):wpAny (model prog w) A (Builtin.SmallTypes.nextOf (.ref it)) Q E s:=by
 obtain⟨o,ho,hc,hd⟩:=id hi
 obtain⟨u,hu,_,_,hud⟩:=ht
 unfold Builtin.SmallTypes.nextOf
 refine YAA (wpAny_callSpecial?_slot (name:=Str.ofString "__next__") hi.typeIs YCi (YBg YCi hi.typeIs F.entry_tuple_iterator_next ?_ (F.args_tuple_iterator_next_1 _)))
 show wpAny _ _ (field (.ref it) 0 >>= _) _ _ s
 refine YAA (YBd ho hd (x:=.ref t) rfl ?_)
 show wpAny _ _ (if (Value.ref t == Value.none)=true then _ else _) _ _ s
 rw[YAJ (show ¬((Value.ref t == Value.none)=true) from YAC)];show wpAny _ _ (field (.ref it) 1 >>= _) _ _ s
 refine YAA (YBd ho hd (x:=.int i 0) rfl ?_);show wpAny _ _ (seqItems? (.ref t) >>= _) _ _ s
 refine YAA (YCE hu hud ?_)
 simp only[YBa,hx]
 refine YAA (YBo (YAA (YBR ho hd (by simp) ?_)));show wpAny _ _ (newExc (.type "StopIteration") [] >>= _) _ _ _
 refine YAA ?_
 simp only[newExc,newTuple]
 refine YAA (YBY (YAA (m:=firstArgMember _ _) (wpAny_of_eq (a:=Value.none) (by first | rfl | (simp only[firstArgMember];rfl)) (YBY ?_ (by size_fits)))) (by size_fits))
 simp only[raiseNew]
 refine YAA (wpAny_handled ?_)
 rw[show A.in1.handled=none from hh];refine YAA (YAD (wpAny_throw ?_))
 exact q _ _ (((YAd ..).extBut.push _).push _) ⟨_,YAG _ rfl,rfl⟩
theorem Zew (hh:A.handled=none)(it t:Addr)(ne:t≠it)(its:Array Value):Draws prog w A it [it,t] its.size (fun i v=>its[i]?=some v) (fun i h=>h.IsTupleIter it t i∧h.IsTuple t its) where
 live:=fun _ _ z=>let ⟨o,ho,_⟩:=z.1;⟨o,ho⟩
 frame:=fun _ _ _ z k=>⟨z.1.at fun o e=>k it (by simp) o e,let ⟨o,ho,r⟩:=z.2;⟨o,k t (by simp) o ho,r⟩⟩
 item:=fun i s Q E hi z q=>ZeJ z.1 z.2 (x:=its[i]) (by simp[hi]) fun h' a b=>q _ h' s.toks (by simp[hi]) ⟨a,z.2.extBut b.extBut ne⟩ b
 done:=fun s Q E z q=>ZfB hh z.1 z.2 (by simp) q
structure Zap (z TI TO i1 i2:Addr)(f1 f2:List Addr):Prop where
 a1:TI≠z
 a2:TO≠z
 a3:i1≠z
 a4:i2≠z
 a5:TI≠TO
 a6:TI≠i1
 a7:TI≠i2
 a8:TO≠i1
 a9:TO≠i2
 b1:z∉f1
 b2:z∉f2
 b3:TO∉f1
 b4:TO∉f2
 b5:i2∉f1
 b6:i1∉f2
variable {z TI TO i1 i2:Addr}{f1 f2:List Addr}{n i:Nat}{P1 P2:Nat→Value→Prop}{S1 S2:Nat→Heap→Prop}{a b:Value}
theorem Zho {Q:Value→Shared→Prop}(D:Zap z TI TO i1 i2 f1 f2)(D1:Draws prog w A i1 f1 n P1 S1)(D2:Draws prog w A i2 f2 n P2 S2)(hn:i<n)
  (hz:IsZip s.heap z TI TO .none) (hI:IsPair s.heap TI (.ref i1) (.ref i2)) (hO:IsPair s.heap TO a b) (h1:S1 i s.heap) (h2:S2 i s.heap)
  (q:∀x y h' tk,P1 i x→P2 i y→IsZip h' z TI TO (rawInt s.heap.objs.size)→IsPair h' TO x y→S1 (i+1) h'→S2 (i+1) h'→IsPair h' s.heap.objs.size x y →
   (∀c o,c≠z→c≠TO→c≠i1→c≠i2→s.heap.get? c=some o→h'.get? c=some o)→Q (.ref s.heap.objs.size) { s with heap:=h',toks:=tk }):
  wpAny (model prog w) A (Builtin.«zip.__next__» ⟨[.ref z],[]⟩) (fun fin s'=>∃v,fin=.done (.ret v)∧Q v s') E s:=by
 show wpAny _ _ (field (.ref z) 2 >>= _) _ _ _
 refine YAA (YBd hz rfl (x:=.bool false) rfl ?_)
 show wpAny _ _ (field (.ref z) 3 >>= _) _ _ _
 refine YAA (YBd hz rfl (x:=.ref TI) rfl (YAA (YCE hI rfl ?_)))
 show wpAny _ _ (Builtin.SmallTypes.ownedTupleIsFree (.ref z) >>= _) _ _ _
 refine YAA ?_
 unfold Builtin.SmallTypes.ownedTupleIsFree
 refine YAA (YBd hz rfl (x:=.none) rfl (YAD ?_))
 simp only[if_true]
 refine YAA (YBo (YAA (YBd hz rfl (x:=.ref TO) rfl (YAA (YCw hz (by simp) fun g1 z1 k1=>?_)))))
 replace z1:IsZip g1 z TI TO .ellipsis:=z1
 replace k1:Heap.SameBut z s.heap g1:=k1
 refine YAA ?_
 simp only[List.zipIdx_cons,List.zipIdx_nil,YBs,YDY]
 refine YAA (YAA (wpAny_onRaise ?_))
 show wpAny _ _ (Builtin.SmallTypes.nextOf (.ref i1) >>= _) _ _ _
 have f1':∀c,c∈f1→c≠z:=fun c hc e=>D.b1 (e▸hc)
 have f2':∀c,c∈f2→c≠z:=fun c hc e=>D.b2 (e▸hc)
 refine YAA (D1.item i _ _ _ hn (D1.frame _ _ _ h1 fun c hc o e=>k1.extBut _ _ (f1' c hc) e) fun x g2 tk1 px s1 k2=>YAD ?_)
 replace k2:Heap.SameBut i1 g1 g2:=k2
 have o2:IsPair g2 TO a b:=k2.extBut _ _ D.a8 (k1.extBut _ _ D.a2 hO)
 refine YAA (YCE o2 rfl (YAA (wpAny_updateSeq_pair o2 fun g3 o3 k3=>?_)))
 replace o3:IsPair g3 TO x b:=o3
 replace k3:Heap.SameBut TO g2 g3:=k3
 refine YAA (wpAny_letGo (YAD (YAA (YAA (wpAny_onRaise ?_)))))
 show wpAny _ _ (Builtin.SmallTypes.nextOf (.ref i2) >>= _) _ _ _
 have e2:S2 i g3:=D2.frame _ _ _ h2 fun c hc o e=>k3.extBut _ _ (fun z=>D.b4 (z▸hc)) (k2.extBut _ _ (fun z=>D.b6 (z▸hc)) (k1.extBut _ _ (f2' c hc) e))
 refine YAA (D2.item i _ _ _ hn e2 fun y g4 tk2 py s2 k4=>YAD ?_)
 replace k4:Heap.SameBut i2 g3 g4:=k4
 have o4:IsPair g4 TO x b:=k4.extBut _ _ D.a9 o3
 refine YAA (YCE o4 rfl (YAA (wpAny_updateSeq_pair o4 fun g5 o5 k5=>?_)))
 replace o5:IsPair g5 TO x y:=o5
 replace k5:Heap.SameBut TO g4 g5:=k5
 refine YAA (wpAny_letGo (YAD (YAD (YAA (YCE o5 rfl (YAA (wpAny_newTuple ?_)))))))
 have sz:g5.objs.size=s.heap.objs.size:=by rw[k5.1,k4.1,k3.1,k2.1,k1.1]
 have z5:IsZip g5 z TI TO .ellipsis:=k5.extBut _ _ D.a2.symm (k4.extBut _ _ D.a4.symm (k3.extBut _ _ D.a2.symm (k2.extBut _ _ D.a3.symm z1)))
 have kk:∀c o,c≠z→c≠TO→c≠i1→c≠i2→s.heap.get? c=some o→g5.get? c=some o:=fun c o c1 c2 c3 c4 e=>k5.extBut _ _ c2 (k4.extBut _ _ c4 (k3.extBut _ _ c2 (k2.extBut _ _ c3 (k1.extBut _ _ c1 e))))
 have t1:S1 (i+1) g5:=D1.frame _ _ _ s1 fun c hc o e=>k5.extBut _ _ (fun z=>D.b3 (z▸hc)) (k4.extBut _ _ (fun z=>D.b5 (z▸hc)) (k3.extBut _ _ (fun z=>D.b3 (z▸hc)) e))
 have t2:S2 (i+1) g5:=D2.frame _ _ _ s2 fun c hc o e=>k5.extBut _ _ (fun z=>D.b4 (z▸hc)) e
 have zl:z<g5.objs.size:=YAH z5
 show wpAny _ _ (Builtin.SmallTypes.ownedTupleHandOut (.ref z) (.ref g5.objs.size) >>= _) _ _ _
 refine YAA ?_
 unfold Builtin.SmallTypes.ownedTupleHandOut
 have z6:IsZip (g5.push { cls:=.type "tuple",data:=.seq #[x,y] }) z TI TO .ellipsis:=YAB _ z5
 refine YAA (YCw z6 (by simp) fun g7 z7 k7=>?_)
 replace z7:IsZip g7 z TI TO (rawInt g5.objs.size):=z7
 refine YCw z7 (by simp) fun g8 z8 k8=>?_
 replace z8:IsZip g8 z TI TO (rawInt g5.objs.size):=z8
 have up:∀c o,c≠z→g5.get? c=some o→g8.get? c=some o:=fun c o c1 e=>k8.extBut _ _ c1 (k7.extBut _ _ c1 (YAB _ e))
 have p8:IsPair g8 g5.objs.size x y:=k8.extBut _ _ (YCu zl) (k7.extBut _ _ (YCu zl) (YAG _ rfl))
 rw[sz]at z8 p8
 refine YAD ⟨_,rfl,?_⟩
 show Q (.ref g5.objs.size) _
 rw[sz]
 exact q x y g8 tk2 px py z8 (up _ _ D.a2 o5) (D1.frame _ _ _ t1 fun c hc o e=>up c o (f1' c hc) e) (D2.frame _ _ _ t2 fun c hc o e=>up c o (f2' c hc) e) p8 fun c o c1 c2 c3 c4 e=>up c o c1 (kk c o c1 c2 c3 c4 e)
theorem ZiO {Q:Fin→Shared→Prop}(D:Zap z TI TO i1 i2 f1 f2)(D1:Draws prog w A i1 f1 n P1 S1)
  (hz:IsZip s.heap z TI TO .none) (hI:IsPair s.heap TI (.ref i1) (.ref i2)) (h1:S1 n s.heap)
  (q:∀h' e,(∀c o,c≠z→c≠i1→s.heap.get? c=some o→h'.get? c=some o)→(∃o,h'.get? e=some o∧o.cls=.type "StopIteration")→E (.ref e) { s with heap:=h' }):
  wpAny (model prog w) A (Builtin.«zip.__next__» ⟨[.ref z],[]⟩) Q E s:=by
 show wpAny _ _ (field (.ref z) 2 >>= _) _ _ _
 refine YAA (YBd hz rfl (x:=.bool false) rfl ?_)
 show wpAny _ _ (field (.ref z) 3 >>= _) _ _ _
 refine YAA (YBd hz rfl (x:=.ref TI) rfl (YAA (YCE hI rfl ?_)))
 show wpAny _ _ (Builtin.SmallTypes.ownedTupleIsFree (.ref z) >>= _) _ _ _
 refine YAA ?_
 unfold Builtin.SmallTypes.ownedTupleIsFree
 refine YAA (YBd hz rfl (x:=.none) rfl (YAD ?_))
 simp only[if_true]
 refine YAA (YBo (YAA (YBd hz rfl (x:=.ref TO) rfl (YAA (YCw hz (by simp) fun g1 z1 k1=>?_)))))
 replace z1:IsZip g1 z TI TO .ellipsis:=z1
 replace k1:Heap.SameBut z s.heap g1:=k1
 refine YAA ?_
 simp only[List.zipIdx_cons,List.zipIdx_nil,YBs,YDY]
 refine YAA (YAA (wpAny_onRaise ?_))
 show wpAny _ _ (Builtin.SmallTypes.nextOf (.ref i1) >>= _) _ _ _
 refine YAA (D1.done _ _ _ (D1.frame _ _ _ h1 fun c hc o e=>k1.extBut _ _ (fun z=>D.b1 (z▸hc)) e) fun g2 e k2 he=>?_)
 obtain⟨o,ho,hc⟩:=he
 have z2:IsZip g2 z TI TO .ellipsis:=k2 _ _ D.a3.symm z1
 have ez:e≠z:=fun x=>by subst x;rw[z2]at ho;cases ho;simp at hc
 refine YCw z2 (by simp) fun g3 _ k3=>q g3 e (fun c o c1 c3 x=>k3.extBut _ _ c1 (k2 _ _ c3 (k1.extBut _ _ c1 x))) ⟨o,k3.extBut _ _ ez ho,hc⟩
end
section
variable {prog:Program}{w:World}{A:Around}{E:Value→Shared→Prop}{s:Shared}{z TI TO i1 i2:Addr}{f1 f2:List Addr}{n i:Nat}{P1 P2:Nat→Value→Prop}{S1 S2:Nat→Heap→Prop}{a b:Value}
theorem ZcP {Q:Option Value→Shared→Prop}(D:Zap z TI TO i1 i2 f1 f2)(D1:Draws prog w A.in1 i1 f1 n P1 S1)(D2:Draws prog w A.in1 i2 f2 n P2 S2)(hn:i<n)
  (hz:IsZip s.heap z TI TO .none) (hI:IsPair s.heap TI (.ref i1) (.ref i2)) (hO:IsPair s.heap TO a b) (h1:S1 i s.heap) (h2:S2 i s.heap)
  (q:∀x y h' tk,P1 i x→P2 i y→IsZip h' z TI TO (rawInt s.heap.objs.size)→IsPair h' TO x y→S1 (i+1) h'→S2 (i+1) h'→IsPair h' s.heap.objs.size x y →
   (∀c o,c≠z→c≠TO→c≠i1→c≠i2→s.heap.get? c=some o→h'.get? c=some o)→Q (some (.ref s.heap.objs.size)) { s with heap:=h',toks:=tk }):
  wpAny (model prog w) A (pyNext (.ref z)) Q E s:=by
 have hT:s.TypeIs (.ref z) "zip":=⟨_,hz,rfl⟩
 unfold pyNext
 exact YAA (YBz (wpAny_callSpecial?_slot (name:=Str.ofString "__next__") hT F.slot_zip_next (YBg F.slot_zip_next hT F.entry_zip_next
   (Zho D D1 D2 hn hz hI hO h1 h2 fun x y h' tk c1 c2 c3 c4 c5 c6 c7 c8=>YAD (q x y h' tk c1 c2 c3 c4 c5 c6 c7 c8)) (F.args_zip_next_1 _))))
theorem Zdb {Q:Option Value→Shared→Prop}(D:Zap z TI TO i1 i2 f1 f2)(D1:Draws prog w A.in1 i1 f1 n P1 S1)
  (hz:IsZip s.heap z TI TO .none) (hI:IsPair s.heap TI (.ref i1) (.ref i2)) (h1:S1 n s.heap) (q:∀h',(∀c o,c≠z→c≠i1→s.heap.get? c=some o→h'.get? c=some o)→Q none { s with heap:=h' }):
  wpAny (model prog w) A (pyNext (.ref z)) Q E s:=by
 have hT:s.TypeIs (.ref z) "zip":=⟨_,hz,rfl⟩
 unfold pyNext
 refine YAA (YBz (wpAny_callSpecial?_slot (name:=Str.ofString "__next__") hT F.slot_zip_next (YBg F.slot_zip_next hT F.entry_zip_next (ZiO D D1 hz hI h1 fun h' e k he=>?_) (F.args_zip_next_1 _))))
 obtain⟨o,ho,hc⟩:=he
 exact YAA (wpAny_isInstance (T:="StopIteration") (b:=true) ⟨o,ho,hc⟩ isSubtype_stop (YAD (q _ k)))
end
noncomputable abbrev zt1 (h:Heap)(l:Addr):Heap:=h.push { cls:=.type "tuple_iterator",data:=.fields #[.ref l,.int 0 0] }
noncomputable abbrev zt2 (h:Heap)(l m:Addr):Heap:=(zt1 h l).push { cls:=.type "tuple_iterator",data:=.fields #[.ref m,.int 0 0] }
noncomputable abbrev zt3 (h:Heap)(l m:Addr):Heap:=(zt2 h l m).push { cls:=.type "tuple",data:=.seq #[.ref h.objs.size,.ref (zt1 h l).objs.size] }
noncomputable abbrev zt4 (h:Heap)(l m:Addr):Heap:=(zt3 h l m).push { cls:=.type "tuple",data:=.seq #[.none,.none] }
noncomputable abbrev zt5 (h:Heap)(l m:Addr):Heap:=(zt4 h l m).push { cls:=.type "zip",data:=.fields #[.none,.bool false,.bool false,.ref (zt2 h l m).objs.size,.ref (zt3 h l m).objs.size] }
theorem Zg6 (l m:Addr)(xs ys:Array Value):Meets (Builtin.«zip.__new__» ⟨[.type "zip",.ref l,.ref m],[]⟩) (fun _ R s=>s.heap.IsTuple l xs∧s.heap.IsTuple m ys∧R (.ok (.ret (.ref (zt4 s.heap l m).objs.size))) { s with heap:=zt5 s.heap l m }):=
 .of_wp fun prog w A R s h=>by
  obtain⟨hp,g,d,tk,os⟩:=s
  obtain⟨p1,p2,h⟩:=h
  have hsub:=sub_zip
  have L1:Heap.IsTuple (Shared.heap ⟨hp,g,d,tk,os⟩) l xs:=p1
  have L2:Heap.IsTuple (Shared.heap ⟨hp.push { cls:=.type "tuple_iterator",data:=.fields #[.ref l,.int 0 0] },g,d,tk,os⟩) m ys:=Heap.IsTuple.push p2 _
  wp_walk using wpAny_pyIter_tuple L1,wpAny_pyIter_tuple L2
  exact⟨_,rfl,h⟩
theorem ZiF {prog:Program}{w:World}{A:Around}{E:Value→Shared→Prop}{s:Shared}{l m:Addr}{xs ys:Array Value}{Q:Value→Shared→Prop}(p1:s.heap.IsTuple l xs)(p2:s.heap.IsTuple m ys)
  (q:∀h',IsZip h' (s.heap.objs.size+4) (s.heap.objs.size+2) (s.heap.objs.size+3) .none→IsPair h' (s.heap.objs.size+2) (.ref s.heap.objs.size) (.ref (s.heap.objs.size+1))→IsPair h' (s.heap.objs.size+3) .none .none →
   h'.IsTupleIter s.heap.objs.size l 0→h'.IsTupleIter (s.heap.objs.size+1) m 0→(∀c o,s.heap.get? c=some o→h'.get? c=some o)→Q (.ref (s.heap.objs.size+4)) { s with heap:=h' }):
  wpAny (model prog w) A (call (.type "zip") [.ref l,.ref m]) Q E s:=by
 refine callType_new F.called_zip (by decide) (F.typeCall_zip_2 _ _) (F.newCall_zip_2 _ _) (fun obj=>F.args_object_init_3 obj _ _) F.entry_zip_new (Zg6 l m xs ys) ⟨p1,p2,?_⟩
 have e1:(zt1 s.heap l).objs.size=s.heap.objs.size+1:=YAs ..
 have e2:(zt2 s.heap l m).objs.size=s.heap.objs.size+2:=by rw[YAs,e1]
 have e3:(zt3 s.heap l m).objs.size=s.heap.objs.size+3:=by rw[YAs,e2]
 have e4:(zt4 s.heap l m).objs.size=s.heap.objs.size+4:=by rw[YAs,e3]
 have g5:(zt5 s.heap l m).get? (zt4 s.heap l m).objs.size=some _:=YAG _ rfl
 have g4:(zt5 s.heap l m).get? (zt3 s.heap l m).objs.size=some _:=YAB _ (YAG _ rfl)
 have g3:(zt5 s.heap l m).get? (zt2 s.heap l m).objs.size=some _:=YAB _ (YAB _ (YAG _ rfl))
 have g2:(zt5 s.heap l m).get? (zt1 s.heap l).objs.size=some _:=YAB _ (YAB _ (YAB _ (YAG _ rfl)))
 have g1:(zt5 s.heap l m).get? s.heap.objs.size=some _:=YAB _ (YAB _ (YAB _ (YAB _ (YAG _ rfl))))
 show _∧_
 rw[e2,e3,e4]at g5
 rw[e1,e2]at g3
 rw[e3]at g4
 rw[e1]at g2
 rw[e4]
 exact⟨⟨_,g5,rfl⟩,q _ g5 g3 g4 ⟨_,g1,rfl,rfl⟩ ⟨_,g2,rfl,rfl⟩ fun c o x=>YAB _ (YAB _ (YAB _ (YAB _ (YAB _ x))))⟩
theorem Zg3 {x p q:Nat}(h1:x≠p)(h2:x≠q):x∉[p,q]:=by simp[h1,h2]
theorem Zf7 (a b z:Nat)(h1:a<z)(h2:b<z):Zap (z+4) (z+2) (z+3) z (z+1) [z,a] [z+1,b] where
 a1:=show (z+2:Nat)≠z+4 by omega
 a2:=show (z+3:Nat)≠z+4 by omega
 a3:=show (z:Nat)≠z+4 by omega
 a4:=show (z+1:Nat)≠z+4 by omega
 a5:=show (z+2:Nat)≠z+3 by omega
 a6:=show (z+2:Nat)≠z by omega
 a7:=show (z+2:Nat)≠z+1 by omega
 a8:=show (z+3:Nat)≠z by omega
 a9:=show (z+3:Nat)≠z+1 by omega
 b1:=Zg3 (by omega) (by omega)
 b2:=Zg3 (by omega) (by omega)
 b3:=Zg3 (by omega) (by omega)
 b4:=Zg3 (by omega) (by omega)
 b5:=Zg3 (by omega) (by omega)
 b6:=Zg3 (by omega) (by omega)
theorem mem5 {c z:Nat}(h:c∈[z+4,z+2,z+3,z,z+1]):z≤c∧c≤z+4:=by
 simp only[YAK,YBn,or_false]at h
 omega
noncomputable def Itz (K:PySem.W.Frag)(a b:Addr):It:=
  ⟨fun i H=>∃xs ys x y,SqT K H a xs∧SqT K H b ys∧xs.length=ys.length∧xs[i]?=some x∧ys[i]?=some y,
   fun i H v H'=>∃p x y,H p=none∧v=.ref p∧H'=upd H p (.tup [x,y])∧(∀xs,SqT K H a xs→xs[i]?=some x)∧∀ys,SqT K H b ys→ys[i]?=some y,
   fun i H=>∃xs ys,SqT K H a xs∧SqT K H b ys∧xs.length=ys.length∧xs.length=i⟩
theorem ZiQ {P:Program}{w:World}{K:PySem.W.Frag}{es:List Expr}{x1:Nat}{tp:Pos}(a b z:Addr)(hz:a<z∧b<z):Turn P w K (.Tuple es x1 tp) (Itz K a b) [z+4,z+2,z+3,z,z+1] (z+4)
  (fun i h=>IsZip h (z+4) (z+2) (z+3) .none∧IsPair h (z+2) (.ref z) (.ref (z+1))∧(∃u v,IsPair h (z+3) u v)∧h.IsTupleIter z a i∧h.IsTupleIter (z+1) b i) where
 mem:=by simp
 obj:=fun i h st c hc=>by
  obtain⟨s1,s2,⟨u,v,s3⟩,⟨o4,s4,c4,d4⟩,⟨o5,s5,c5,d5⟩⟩:=st
  simp only[YAK,YBn,or_false]at hc
  rcases hc with e | e | e | e | e
  ·exact⟨_,e▸s1,fun v q=>by cases (show Data.fields _=Data.cell v from q)⟩
  ·exact⟨_,e▸s2,fun v q=>by cases (show Data.seq _ _=Data.cell v from q)⟩
  ·exact⟨_,e▸s3,fun v q=>by cases (show Data.seq _ _=Data.cell v from q)⟩
  ·exact⟨o4,e▸s4,fun v q=>by rw[d4]at q;cases q⟩
  ·exact⟨o5,e▸s5,fun v q=>by rw[d5]at q;cases q⟩
 keep:=fun i h h' st k=>by
  obtain⟨s1,s2,⟨u,v,s3⟩,s4,s5⟩:=st
  exact⟨k _ (by simp) _ s1,k _ (by simp) _ s2,⟨u,v,k _ (by simp) _ s3⟩,s4.at fun o q=>k _ (by simp) o q,s5.at fun o q=>k _ (by simp) o q⟩
 item:=by
  intro X hP hw hK hc i pins s σ H E I hf st hg
  subst hP hw hK
  obtain⟨s1,s2,⟨u,v,s3⟩,s4,s5⟩:=st
  obtain⟨xs,ys,x,y,ha,hb,hl,hx,hy⟩:=hg
  obtain⟨is,ri,pi,_⟩:=I.tuple ha
  obtain⟨js,rj,pj,_⟩:=I.tuple hb
  have li:is.toArray.size=xs.length:=by rw[YAI,ri.length]
  have lj:js.toArray.size=xs.length:=by rw[YAI,hl,rj.length]
  have hh:X.A.in1.handled=none:=by simpa using I.ok.hd hc
  have D1:=Zew (prog:=X.prog) (w:=X.w) (A:=X.A.in1) hh z a (YAX hz.1) is.toArray
  have D2:=Zew (prog:=X.prog) (w:=X.w) (A:=X.A.in1) hh (z+1) b (YAX (YCK hz.2)) js.toArray
  rw[li]at D1
  rw[lj]at D2
  have hi:i<xs.length:=(YAc.mp hx).1
  have ap:Zap (z+4) (z+2) (z+3) z (z+1) [z,a] [z+1,b]:=Zf7 a b z hz.1 hz.2
  have sz:z+4<s.heap.objs.size:=YAH s1
  refine ZcP ap D1 D2 hi s1 s2 s3 ⟨s4,pi⟩ ⟨s5,pj⟩ fun u1 u2 h' tk q1 q2 y1 y2 y3 y4 y5 y6=>?_
  refine⟨_,rfl,?_⟩
  refine wpAny_letOwnedTupleGo_zip (s:={ s with heap:=h',toks:=tk }) y1 fun h2 o2 sb=>?_
  obtain⟨x',hx',rx⟩:=ZcE ri (show is[i]?=some u1 by simpa using q1)
  obtain⟨y',hy',ry⟩:=ZcE rj (show js[i]?=some u2 by simpa using q2)
  obtain rfl:x=x':=Option.some.inj (hx.symm.trans hx')
  obtain rfl:y=y':=Option.some.inj (hy.symm.trans hy')
  have hfr:=I.fresh
  replace sb:Heap.SameBut (z+4) h' h2:=sb
  have k2:∀c o,c∉[z+4,z+2,z+3,z,z+1]→s.heap.get? c=some o→h2.get? c=some o:=fun c o hc q=>by
   simp only[YAK,YBn,or_false,not_or]at hc
   exact(sb.2 c hc.1).trans (y6 c o hc.1 hc.2.2.1 hc.2.2.2.1 hc.2.2.2.2 q)
  have I1:Inv X pins σ H { s with heap:=h2,toks:=tk }:=I.turnedN (t':=tk) k2 hf
  have t2:IsPair h2 s.heap.objs.size u1 u2:=(sb.2 _ (YCu sz)).trans y5
  have fp:=I.fpOk (H':=H) (YAQ _) hfr
  have up:∀c o,c≠z+4→h'.get? c=some o→h2.get? c=some o:=fun c o n q=>(sb.2 c n).trans q
  refine⟨.ref s.heap.objs.size,upd H s.heap.objs.size (.tup [x,y]),I1.track fp I.sz ?_,rfl,⟨_,x,y,hfr,rfl,rfl,fun xs' h=>by rw[I.tuple_inj h ha];exact hx,fun ys' h=>by rw[I.tuple_inj h hb];exact hy⟩,⟨o2,?_,⟨u1,u2,up _ _ ap.a2 y2⟩,?_,?_⟩,fun c hc=>?_⟩
  ·exact⟨by show 2≤sizeLine;rw[sizeLine_eq];decide,[u1,u2],.cons rx (.cons ry .nil),⟨_,t2,rfl,_,rfl⟩⟩
  ·exact up _ _ ap.a1 (y6 _ _ ap.a1 ap.a5 ap.a6 ap.a7 s2)
  ·exact y3.1.at fun o q=>up _ _ ap.a3 q
  ·exact y4.1.at fun o q=>up _ _ ap.a4 q
  ·have hc':=hf c hc
   have:c≠s.heap.objs.size:=YAX (YCW (mem5 hc).2 sz)
   rw[Zae this];exact hc'.1
 done:=by
  intro X hP hw hK hc i pins s σ H E I hf st hg
  subst hP hw hK
  obtain⟨s1,s2,⟨u,v,s3⟩,s4,s5⟩:=st
  obtain⟨xs,ys,ha,hb,hl,rfl⟩:=hg
  obtain⟨is,ri,pi,_⟩:=I.tuple ha
  have li:is.toArray.size=xs.length:=by rw[YAI,ri.length]
  have hh:X.A.in1.handled=none:=by simpa using I.ok.hd hc
  have D1:=Zew (prog:=X.prog) (w:=X.w) (A:=X.A.in1) hh z a (YAX hz.1) is.toArray
  rw[li]at D1
  have ap:Zap (z+4) (z+2) (z+3) z (z+1) [z,a] [z+1,b]:=Zf7 a b z hz.1 hz.2
  refine Zdb ap D1 s1 s2 ⟨s4,pi⟩ fun h' k=>⟨rfl,I.turnedN (t':=s.toks) (fun c o hc q=>k c o (fun e=>hc (by simp[e])) (fun e=>hc (by simp[e])) q) hf⟩
 self:=fun _ _ _ _ _ st h=>wpAny_pyIter_zip st.1 h
section
variable {X:Cx}{es:List Expr}{x1:Nat}{tp:Pos}
end
section
variable {prog:Program}{w:World}{A:Around}{E:Value→Shared→Prop}{s:Shared}{l I S:Addr}{ls:List (List Nat)}{vs:List Value}{R:Result→Shared→Prop}{Q:Value→Shared→Prop}
end
section
variable {X:Cx}{e:Expr}{ta:TA}{p p2 pos kpos:Pos}
noncomputable def repT (l:List Nat)(n:Int):List Nat:=(List.replicate n.toNat l).flatten
theorem Zfk (a:Array Nat):∀(n:Nat) (acc:Array Nat),((List.replicate n a).foldl (·++·) acc).toList=acc.toList++(List.replicate n a.toList).flatten
 | 0,acc=>by simp
 | n+1,acc=>by
  rw[YDP,YCd,Zfk a n,YDP]
  simp
theorem ZmS (l:List Nat)(n:Int):Txt.mul ⟨l.toArray⟩ n=⟨(repT l n).toArray⟩:=by
 unfold Txt.mul repT
 by_cases h1:n<1
 ·rw[YAO h1]
  have:n.toNat=0:=by omega
  rw[this];rfl
 ·rw[YAJ h1]
  split
  ·rename_i h
   rw[Bool.or_eq_true]at h
   rcases h with h | h
   ·have:n=1:=by simpa using h
    subst this
    simp
   ·have:l=[]:=by
     have:=beq_iff_eq.mp h
     rw[ZcY]at this
     exact YCx.mp this
    subst this
    simp
  ·congr 1
   apply Array.ext'
   rw[Zfk]
   simp
theorem ZeW:OpR X (binaryOp .Mult) (fun x y H Q=>∃l n,x=tx l∧y=.int n∧0≤n∧n≤1000∧l.length≤1000∧Q (tx (repT l n)) H):=by
 rintro pins s σ H x y v u Q I rx ry ⟨l,n,rfl,rfl,h0,h1,h2,q⟩
 obtain⟨t,rfl⟩:=rx
 obtain⟨t',rfl⟩:=ry
 have e1:(⟨l.toArray⟩:Str).length=l.length:=ZcY l
 refine SB.mul ⟨?_,fun a b=>?_,fun a b=>?_⟩ fun t2 k=>?_
 ·simp only[Bool.or_eq_false_iff,decide_eq_false_iff_not];omega
 ·rw[e1]
  have e3:(1000:Int)≤(2 ^ 63-1)/n:=by
   rw[Int.le_ediv_iff_mul_le (by omega)]
   omega
  omega
 ·rw[e1]
  have:l.length*n.toNat≤1000*1000:=Nat.mul_le_mul h2 (by omega)
  unfold Builtin.Str.tooLong
  simp only[decide_eq_false_iff_not]
  rw[sizeLine_eq]
  omega
 ·rw[ZmS];exact⟨tx _,H,I.tok _,⟨_,rfl⟩,q⟩
theorem ZjM:∀ {ns:List String} {its:List Value},Vals (ns.map V.ty) its→its=ns.map Value.type
 | [],_,.nil=>rfl
 | _::_,_,.cons a b=>by
  cases (show _=Value.type _ from a)
  rw[ZjM b,YAf]
theorem ZcW {K:PySem.W.Frag}(hK:X.K=K):ZcD X (.builtin "isinstance") (fun xs H Q=>∃(x:V) (p:Addr) (ns:List String) (t:Value) (b:Bool),xs=[x,.ref p]∧H p=some (.tup (ns.map V.ty))∧TyX K H x t∧PySem.W.kitAny K t (ns.map Value.type)=some b∧(∀C,t≠.ref C)∧Q (.bl b) H):=by
 subst hK
 rintro pins s σ H xs us Q I r ⟨x,p,ns,t,b,rfl,hp,ty,e,nr,q⟩
 obtain⟨u,v,rfl,ru,rv⟩:=r.two
 cases rv
 obtain⟨_,its,r2,o,ho,hc,n,hd⟩:=I.hok p _ hp
 have ei:=ZjM r2
 subst ei
 have fin:∀ {Hx:Heap→Prop},PySem.W.KitX X.K u t Hx→Hx s.heap→u≠.builtin "__main__.__loader__#opaque"→wpAny (model X.prog X.w) X.A (call (.builtin "isinstance") [u,.ref p]) (EP X pins σ Q) X.xe s:=fun Z hx ne=>by
  obtain⟨oc,od,odt,osl⟩:=o
  cases hc
  cases hd
  exact PySem.W.kia_tup Z I.kIn hx ho e ne fun tk=>⟨.bl b,H,I.tok _,rfl,q⟩
 cases ty with
 | pl ty=>
  cases ty with
  | non=>cases (show u=Value.none from ru);exact fin PySem.W.kitx_none True.intro (fun z=>nomatch z)
  | bl y=>cases (show u=Value.bool y from ru);exact fin PySem.W.kitx_bool True.intro (fun z=>nomatch z)
  | int i=>obtain⟨t,z⟩:=(show ∃t,u=Value.int i t from ru);cases z;exact fin PySem.W.kitx_int True.intro (fun z=>nomatch z)
  | str y=>obtain⟨t,z⟩:=(show ∃t,u=Value.str y t from ru);cases z;exact fin PySem.W.kitx_str True.intro (fun z=>nomatch z)
  | flt y=>obtain⟨t,z⟩:=(show ∃t,u=Value.float y t from ru);cases z;exact fin PySem.W.kitx_float True.intro (fun z=>nomatch z)
  | @lst a xs ea=>
   cases (show u=Value.ref a from ru)
   obtain⟨_,_,n,_,h1⟩:=(show ObjOk X.prog X.w H s.heap a (.lst xs) from I.hok a _ ea)
   exact fin YCf ⟨_,h1,rfl⟩ (fun z=>nomatch z)
  | @frz a ob xs ea=>
   cases (show u=Value.ref a from ru)
   obtain⟨_,_,_,n,_,h1⟩:=(show ObjOk X.prog X.w H s.heap a (.frz ob (.lst xs)) from I.hok a _ ea)
   exact fin YCf ⟨_,h1,rfl⟩ (fun z=>nomatch z)
  | @tup a xs ea=>
   cases (show u=Value.ref a from ru)
   obtain⟨_,_,_,o',h1,h2,_⟩:=(show ObjOk X.prog X.w H s.heap a (.tup xs) from I.hok a _ ea)
   exact fin YDU ⟨o',h1,h2⟩ (fun z=>nomatch z)
  | @dK a kvs ea=>
   cases (show u=Value.ref a from ru)
   obtain⟨_,_,vs,_,ob,es,ep,h1,h2,_⟩:=(show ObjOk X.prog X.w H s.heap a (.dK kvs) from I.hok a _ ea)
   exact fin PySem.W.kitx_dict ⟨ob,h1,h2.1⟩ (fun z=>nomatch z)
  | @dT a kvs ea=>
   cases (show u=Value.ref a from ru)
   obtain⟨_,_,xs,_,ob,es,ep,h1,h2,_⟩:=(show ObjOk X.prog X.w H s.heap a (.dT kvs) from I.hok a _ ea)
   exact fin PySem.W.kitx_dict ⟨ob,h1,h2.1⟩ (fun z=>nomatch z)
  | ins _ _ _ _ _ _=>exact absurd rfl (nr _)
 | seqL h=>
  cases ru
  obtain⟨_,_,⟨o',n',h1,h2,_⟩,_⟩:=I.list h
  exact fin YCf ⟨o',h1,h2⟩ (fun z=>nomatch z)
 | seqT h=>
  cases ru
  obtain⟨_,_,⟨o',h1,h2,_⟩,_⟩:=I.tuple h
  exact fin YDU ⟨o',h1,h2⟩ (fun z=>nomatch z)
 | exc _ _=>exact absurd rfl (nr _)
end
end L2
namespace L2
open PySem PySem.Spec PyProof.Rows
open PySem.W (Frag)
theorem Zj1 {X:Cx} {K:Frag} {T id:String} {name:Str} {o e:Expr} {es:List Expr} {to:TE} {t:TA} {apos cpos:Pos} {r:V→List V→Hp→VK→Prop} (hK:X.K=K) (pa:PlainAttrs T) (slot:Slot T name id) (hty:typeOf (.builtin id)=pure (.type "method_descriptor")) (hm:MtR X id r) (ho:PE X o to) (ha:PA X (e::es) t)
  (hbase:attributeBase o name X.env (eval o X.env)=eval o X.env:=by rfl)
  (hfew:((backTo cpos (starEach (e::es) X.env)).all (fun x=>!x.1)&&(backToKw cpos (keywordEach [] X.env)).all (fun x=>x.1.isSome)&&decide ((e::es).length+([]:List Keyword).length+(if ([]:List Keyword).isEmpty then 0 else 1)<30))=true:=by rfl)
  (hline:(apos.endLine == cpos.line)=true:=by rfl) (hs:starEach (e::es) X.env=(false,eval e X.env)::starEach es X.env:=by rfl) (hplain:(backTo cpos (starEach es X.env)).any (·.1)=false:=by rfl):PE X (.Call (.Attribute o name apos) (e::es) [] cpos) (tBM K T r to t):=by
 subst hK
 exact ZeU pa slot hty hm ho ha hbase hfew hline hs hplain
def sNo:TS:=fun _ _ _=>False
theorem ZkR {X:Cx}{st:Stmt}:PS X st sNo:=fun _ _ _ _ _ _ h=>h.elim
section
variable {X:Cx}{CX:CXT}{k:Nat}{L f:Addr}{fd:FuncData}{ps:List Str}{sp:Sp}{E:XK}{x:Str}{pos apos np:Pos}{e:Expr}{es:List Expr}{t:TA}{ds:List Value}{dvs:List V}
theorem Zgq {pl:Sem Bool} (hg:Gl X x) (hm:X.mg x=some (.ref L)) (cr:ClsRead X.K L "__init__" (.ref f)) (F:FnOk X.prog X.w X.K X.mg X.base CX k f fd ps sp) (hr:Room k X.A) (hk:PySem.W.keepIn X.K (.ref f)=true) (hb:Binds X.K fd ps ds) (hd:Vals dvs ds) (hx:ZbO CX X E)
  (ha:PA X (e::es) t) (hdb:(x == ("__debug__":Str))=false:=by decide) (hst:starEach (e::es) X.env=(false,eval e X.env)::starEach es X.env:=by rfl) (hpl:(backTo pos (starEach es X.env)).any (·.1)=false:=by rfl)
  (ht:eval (.Call (.Attribute (.Name x np) "__init__" apos) (e::es) [] pos) X.env=(do
   let ov ←eval (.Name x np) X.env
   standAt apos.atName
   let (f,first) ←holding [ov] (getMethod ov "__init__" pl)
   callWith pos f first (backTo pos (starEach (e::es) X.env)) (backToKw pos (keywordEach [] X.env))):=by rfl):PE X (.Call (.Attribute (.Name x np) "__init__" apos) (e::es) [] pos) (Zky sp dvs E t):=by
 intro pins s σ H Q I h
 refine YCa (pl:=pl) (Zbv I hg hm ?_ hdb) ht
 refine PySem.W.method_cls I.kIn cr.sp (PySem.W.cls_value I.kIn cr.rd cr.fd cr.hn ?_)
 refine YBl (first:=[]) (h₀:=X.base) I.ok.mod.kin hk (thn (ha pos pins _ σ H _ (I.tok _) h) fun us s1 ⟨vs,H1,I1,r,q⟩=>⟨I1.kIn,?_⟩) hst hpl
 exact Zgh F hr hb hd hx I1 r q
end
def WhileRun (c:TT)(tb:TS)(D:Ends)(σ:St)(H:Hp):Prop:=ZjR c tb D σ H
theorem ZkP {c:TT}{tb:TS}{D:Ends}{σ:St}{H:Hp}:ZjR c tb D σ H=WhileRun c tb D σ H:=rfl
theorem WhileRun.by {c:TT}{tb:TS}{D:Ends}{σ:St}{H:Hp}(Pv:St→Hp→Prop)(μ:St→Hp→Nat)(h0:Pv σ H)
  (hs:∀σ H,Pv σ H→∃b:Bool,(∀Q:Bool→Hp→Prop,(∀H1,Same H H1→Q b H1)→c σ H Q)∧∀H1,Same H H1→if b=true then tb { D with nx:=fun σ' H'=>Pv σ' H'∧μ σ' H'<μ σ H,ct:=fun σ' H'=>Pv σ' H'∧μ σ' H'<μ σ H,bk:=D.nx } σ H1 else D.nx σ H1):WhileRun c tb D σ H:=by
 refine⟨fun m σ H=>m=μ σ H∧Pv σ H,⟨_,rfl,h0⟩,?_⟩
 rintro m σ H ⟨rfl,p⟩
 obtain⟨b,hc,hb⟩:=hs σ H p
 refine hc _ fun H1 s1=>?_
 have q:=hb H1 s1
 cases b with
 | true=>exact⟨_,fun σ' H' ⟨p',l⟩=>⟨_,l,rfl,p'⟩,q⟩
 | false=>exact q
end L2
namespace L2
open PySem PySem.Spec PyProof.Rows
noncomputable def gal:Bool→Keyed→Array Keyed→Nat→Nat→Nat→StateT SortSt Sem (Option Nat):=sortPriv% PySem.Builtin.gallop
noncomputable def galB (bey:Nat→StateT SortSt Sem (Option Bool)) (n h:Nat):StateT SortSt Sem (Option Nat):=do
  let mut la:=0
  let mut o:=1
  let mut lo:=0
  let mut hi:=0
  let some rt ←bey h | return none
  if rt then
   let mx:=n-h
   for _ in [0:n] do
    if o≥mx then break
    let some mo ←bey (h+o) | return none
    if !mo then break
    la:=o
    o:=2*o+1
   lo:=h+la+1
   hi:=h+min o mx
  else
   let mx:=h+1
   for _ in [0:n] do
    if o≥mx then break
    let some fo ←bey (h-o) | return none
    if fo then break
    la:=o
    o:=2*o+1
   lo:=h+1-min o mx
   hi:=h-la
  for _ in [0:n] do
   if lo≥hi then break
   let m:=lo+(hi-lo)/2
   let some mo ←bey m | return none
   if mo then lo:=m+1 else hi:=m
  return some hi
noncomputable def beyOf (lf:Bool) (ky:Keyed) (ar:Array Keyed) (bs:Nat) (i:Nat):StateT SortSt Sem (Option Bool):=do
 let x ←elem' ar (bs+i)
 if lf then lt' x ky else return (←lt' ky x).map (!·)
theorem Znu (lf:Bool)(ky:Keyed)(ar:Array Keyed)(bs n h:Nat):gal lf ky ar bs n h=galB (beyOf lf ky ar bs) n h:=rfl
noncomputable def galT (bey:Nat→StateT SortSt Sem (Option Bool)) (n l0 h0:Nat):StateT SortSt Sem (Option Nat):=do
  let mut lo:=l0
  let mut hi:=h0
  for _ in [0:n] do
   if lo≥hi then break
   let m:=lo+(hi-lo)/2
   let some mo ←bey m | return none
   if mo then lo:=m+1 else hi:=m
  return some hi
section
variable {M:Model}{A:Around}{E:Value→Shared→Prop}{s:Shared}{bey:Nat→StateT SortSt Sem (Option Bool)}{B:Nat→Bool}{n h:Nat}{st:SortSt}{Q:Option Nat→SortSt→Prop}
noncomputable def Parts (B:Nat→Bool) (n lo hi:Nat):Prop:=(∀i,i<lo→B i=true)∧∀i,hi≤i→i<n→B i=false
theorem Zlp {lo hi:Nat}(hb:∀i (Q:Option Bool→SortSt→Prop),i<n→Q (some (B i)) st→wpS M A E s (bey i) Q st)(mono:∀i j,i≤j→j<n→B j=true→B i=true)(h1:lo≤hi)(h2:hi≤n)(hp:Parts B n lo hi)
  (q:∀k,k≤n→Parts B n k k→Q (some k) st):wpS M A E s (galT bey n lo hi) Q st:=by
 unfold galT
 refine YAL (YBv (YBL (I:=fun i c st'=>st'=st∧∃lo hi,c=(none,lo,hi)∧lo≤hi∧hi≤n∧hi-lo≤n-i∧Parts B n lo hi) (Q:=fun c st'=>st'=st∧∃k,c=(none,k,k)∧k≤n∧Parts B n k k) ?step ?fin ⟨rfl,lo,hi,rfl,h1,h2,by omega,hp⟩) ?post)
 case step=>
  rintro i c st' _ hi' ⟨rfl,lo,hi,rfl,h1,h2,h3,hp⟩
  dsimp only
  by_cases hl:lo≥hi
  ·have e:lo=hi:=by omega
   subst e
   rw[YAO hl]
   exact YAV ⟨rfl,lo,rfl,h2,hp⟩
  ·rw[YAJ hl]
   have hm1:lo≤lo+(hi-lo)/2:=by omega
   have hm2:lo+(hi-lo)/2<hi:=by omega
   generalize lo+(hi-lo)/2=m at hm1 hm2
   refine YAL (hb m _ (by omega) ?_)
   cases hB:B m with
   | true=>exact YAV ⟨rfl,m+1,hi,rfl,by omega,h2,by omega,fun i hi=>mono i m (by omega) (by omega) hB,hp.2⟩
   | false=>
    refine YAV ⟨rfl,lo,m,rfl,by omega,by omega,by omega,hp.1,fun i hi hn=>?_⟩
    cases hx:B i with
    | false=>rfl
    | true=>rw[mono m i hi hn hx]at hB;cases hB
 case fin=>
  rintro c st' ⟨rfl,lo,hi,rfl,h1,h2,h3,hp⟩
  have e:lo=hi:=by omega
  subst e
  exact⟨rfl,lo,rfl,h2,hp⟩
 case post=>
  rintro c st' ⟨rfl,k,rfl,hk,hp⟩
  exact YAV (q k hk hp)
theorem Zlq (hh:h<n)
  (hb:∀i (Q:Option Bool→SortSt→Prop),i<n→Q (some (B i)) st→wpS M A E s (bey i) Q st) (mono:∀i j,i≤j→j<n→B j=true→B i=true)
  (q:∀k,k≤n→Parts B n k k→Q (some k) st):wpS M A E s (galB bey n h) Q st:=by
 have anti:∀ {i j},B i=false→i≤j→j<n→B j=false:=fun {i j} h1 h2 h3=>by
  cases hx:B j with
  | false=>rfl
  | true=>rw[mono i j h2 h3 hx]at h1;cases h1
 have jp:∀lo hi,lo≤hi→hi≤n→Parts B n lo hi→wpS M A E s (galT bey n lo hi) Q st:=fun lo hi a b c=>Zlp hb mono a b c q
 unfold galB
 refine YAL (hb h _ hh ?_)
 cases hB:B h with
 | true=>
  dsimp only
  rw[YAO rfl]
  refine YAL (YBv (YBL (I:=fun i c st'=>st'=st∧∃la o,c=(none,la,o)∧i<o∧la<o∧h+la<n∧B (h+la)=true) (Q:=fun c st'=>st'=st∧∃la o,c=(none,la,o)∧la<o∧h+la<n∧B (h+la)=true∧(n-h≤o∨B (h+o)=false)) ?step ?fin ⟨rfl,0,1,rfl,by omega,by omega,by omega,hB⟩) ?post)
  case step=>
   rintro i c st' _ hi' ⟨rfl,la,o,rfl,h1,h2,h3,h4⟩
   dsimp only
   by_cases hl:o≥n-h
   ·rw[YAO hl]
    exact YAV ⟨rfl,la,o,rfl,h2,h3,h4,.inl hl⟩
   ·rw[YAJ hl]
    refine YAL (hb (h+o) _ (by omega) ?_)
    cases hx:B (h+o) with
    | false=>exact YAV ⟨rfl,la,o,rfl,h2,h3,h4,.inr hx⟩
    | true=>exact YAV ⟨rfl,o,2*o+1,rfl,by omega,by omega,by omega,hx⟩
  case fin=>
   rintro c st' ⟨rfl,la,o,rfl,h1,h2,h3,h4⟩
   exact⟨rfl,la,o,rfl,h2,h3,h4,.inl (by omega)⟩
  case post=>
   rintro c st' ⟨rfl,la,o,rfl,h2,h3,h4,h5⟩
   refine jp (h+la+1) (h+min o (n-h)) (by omega) (by omega) ⟨fun i hi=>mono i (h+la) (by omega) h3 h4,fun i hi hn=>?_⟩
   rcases h5 with h5 | h5
   ·omega
   ·exact anti h5 (by omega) hn
 | false=>
  dsimp only
  rw[YAJ YAC]
  refine YAL (YBv (YBL (I:=fun i c st'=>st'=st∧∃la o,c=(none,la,o)∧i<o∧la<o∧la≤h∧B (h-la)=false) (Q:=fun c st'=>st'=st∧∃la o,c=(none,la,o)∧la<o∧la≤h∧B (h-la)=false∧(h+1≤o∨(o≤h∧B (h-o)=true))) ?step2 ?fin2 ⟨rfl,0,1,rfl,by omega,by omega,by omega,hB⟩) ?post2)
  case step2=>
   rintro i c st' _ hi' ⟨rfl,la,o,rfl,h1,h2,h3,h4⟩
   dsimp only
   by_cases hl:o≥h+1
   ·rw[YAO hl]
    exact YAV ⟨rfl,la,o,rfl,h2,h3,h4,.inl hl⟩
   ·rw[YAJ hl]
    refine YAL (hb (h-o) _ (by omega) ?_)
    cases hx:B (h-o) with
    | true=>exact YAV ⟨rfl,la,o,rfl,h2,h3,h4,.inr ⟨by omega,hx⟩⟩
    | false=>exact YAV ⟨rfl,o,2*o+1,rfl,by omega,by omega,by omega,hx⟩
  case fin2=>
   rintro c st' ⟨rfl,la,o,rfl,h1,h2,h3,h4⟩
   exact⟨rfl,la,o,rfl,h2,h3,h4,.inl (by omega)⟩
  case post2=>
   rintro c st' ⟨rfl,la,o,rfl,h2,h3,h4,h5⟩
   refine jp (h+1-min o (h+1)) (h-la) (by omega) (by omega) ⟨fun i hi=>?_,fun i hi hn=>anti h4 hi hn⟩
   rcases h5 with h5 | ⟨h5,h6⟩
   ·omega
   ·exact mono i (h-o) (by omega) (by omega) h6
end
structure Cmp (D:Keyed→Prop)(L:Keyed→Keyed→Bool):Prop where
 asym:∀x y,D x→D y→L x y=true→L y x=false
 tr:∀x y z,D x→D y→D z→L y x=false→L z y=false→L z x=false
abbrev Le (L:Keyed→Keyed→Bool)(x y:Keyed):Prop:=L y x=false
structure MS (D:Keyed→Prop)(L:Keyed→Keyed→Bool)(T:List Keyed)(o x y:List Keyed):Prop where
 perm:(o++(x++y)).Perm T
 so:o.Pairwise (Le L)
 ox:∀u∈o,∀v∈x,Le L u v
 oy:∀u∈o,∀v∈y,Le L u v
 sx:x.Pairwise (Le L)
 sy:y.Pairwise (Le L)
section
variable {D:Keyed→Prop}{L:Keyed→Keyed→Bool}{T o x y p:List Keyed}
theorem MS.movX (h:MS D L T o (p++x) y)(hp:∀u∈p,∀v∈y,Le L u v):MS D L T (o++p) x y:=by
 obtain⟨h1,h2,h3,h4,h5,h6⟩:=h
 rw[YBH]at h5
 refine⟨by simpa [YAh] using h1,YBH.mpr ⟨h2,h5.1,fun u hu v hv=>h3 u hu v (by simp[hv])⟩,?_,?_,h5.2.1,h6⟩
 ·intro u hu v hv
  rcases YAe.mp hu with hu | hu
  ·exact h3 u hu v (by simp[hv])
  ·exact h5.2.2 u hu v hv
 ·intro u hu v hv
  rcases YAe.mp hu with hu | hu
  ·exact h4 u hu v hv
  ·exact hp u hu v hv
theorem MS.swap (h:MS D L T o x y):MS D L T o y x:=
 ⟨(List.Perm.append_left o List.perm_append_comm).trans h.perm,h.so,h.oy,h.ox,h.sy,h.sx⟩
theorem MS.movY (h:MS D L T o x (p++y))(hp:∀u∈p,∀v∈x,Le L u v):MS D L T (o++p) x y:=(h.swap.movX hp).swap
theorem MS.fin (h:MS D L T o x []):(o++x).Perm T∧(o++x).Pairwise (Le L):=
 ⟨by simpa using h.perm,YBH.mpr ⟨h.so,h.sx,h.ox⟩⟩
theorem MS.all (h:MS D L T o x y)(hxy:∀u∈x,∀v∈y,Le L u v):(o++x++y).Perm T∧(o++x++y).Pairwise (Le L):=by
 have:=(MS.movX (x:=[]) (by simpa using h) hxy).swap.fin
 simpa using this
end
noncomputable def mLo:Array Keyed→Array Keyed→StateT SortSt Sem (Array Keyed):=sortPriv% PySem.Builtin.mergeLo
noncomputable abbrev ZaA (st:SortSt)(g:Nat):SortSt:=SortSt.mk' (kindOf st) (arrOf st) (pendingOf st) g (failedOf st)
noncomputable def setG (g:Nat):StateT SortSt Sem Unit:=modify fun s=>ZaA s g
noncomputable def mLoB (p q:Array Keyed):StateT SortSt Sem (Array Keyed):=do
 rule "list.sort.merge-lo"
 let tt:=p.size+q.size
 let dn (o:Array Keyed) (i j:Nat):=o++p.extract i p.size++q.extract j q.size
 let lp (o:Array Keyed) (i j:Nat):=o++q.extract j q.size++p.extract i p.size
 let mut o:Array Keyed:=#[←elem' q 0]
 let mut i:=0
 let mut j:=1
 if j == q.size then return dn o i j
 if i+1 == p.size then return lp o i j
 let mut mg:=gallopOf (←get)
 for _ in [0:tt] do
  let mut ca:=0
  let mut cb:=0
  for _ in [0:tt] do
   let some wn ←lt' (←elem' q j) (←elem' p i) | return dn o i j
   if wn then
    o:=o.push (←elem' q j);j:=j+1;cb:=cb+1;ca:=0
    if j == q.size then return dn o i j
    if cb≥mg then break
   else
    o:=o.push (←elem' p i);i:=i+1;ca:=ca+1;cb:=0
    if i+1 == p.size then return lp o i j
    if ca≥mg then break
  rule "list.sort.gallop"
  mg:=mg+1
  for _ in [0:tt] do
   if mg>1 then mg:=mg-1
   setG mg
   let some k ←gal false (←elem' q j) p i (p.size-i) 0 | return dn o i j
   ca:=k
   if k>0 then
    o:=o++p.extract i (i+k);i:=i+k
    if i+1 == p.size then return lp o i j
    if i == p.size then return dn o i j
   o:=o.push (←elem' q j);j:=j+1
   if j == q.size then return dn o i j
   let some k ←gal true (←elem' p i) q j (q.size-j) 0 | return dn o i j
   cb:=k
   if k>0 then
    o:=o++q.extract j (j+k);j:=j+k
    if j == q.size then return dn o i j
   o:=o.push (←elem' p i);i:=i+1
   if i+1 == p.size then return lp o i j
   if ca<7&&cb<7 then break
  mg:=mg+1
  setG mg
 unsupported "internal:list.sort.merge-bound"
theorem ZmW (p q:Array Keyed):mLo p q=mLoB p q:=rfl
section
variable {M:Model}{A:Around}{E:Value→Shared→Prop}{s:Shared}{D:Keyed→Prop}{L:Keyed→Keyed→Bool}{kd:SortKind}
noncomputable def PureC (M:Model) (A:Around) (E:Value→Shared→Prop) (s:Shared) (D:Keyed→Prop) (L:Keyed→Keyed→Bool) (kd:SortKind):Prop:=
 ∀(st:SortSt) (x y:Keyed) (Q:Option Bool→SortSt→Prop),kindOf st=kd→D x→D y→Q (some (L x y)) st→wpS M A E s (lt' x y) Q st
theorem ZaZ {ar:Array Keyed}{i:Nat}{x:Keyed}{Q:Keyed→SortSt→Prop}{st:SortSt}(h:ar[i]?=some x)(q:Q x st):wpS M A E s (elem' ar i) Q st:=by
 rw[elem'_eq,h];exact YAV q
theorem Zd0 (hC:Cmp D L)(hP:PureC M A E s D L kd){lf:Bool}{ky:Keyed}{ar:Array Keyed}{bs n h:Nat}{st:SortSt}{Q:Option Nat→SortSt→Prop}(hk:kindOf st=kd)
  (hn:bs+n≤ar.size) (hh:h<n) (hy:D ky) (hd:∀u∈ar.toList,D u) (hs:((ar.toList.drop bs).take n).Pairwise (Le L))
  (q:∀k,k≤n→(∀u∈((ar.toList.drop bs).take n).take k,if lf then L u ky=true else Le L u ky)→(∀u∈((ar.toList.drop bs).take n).drop k,if lf then Le L ky u else L ky u=true)→Q (some k) st):
  wpS M A E s (gal lf ky ar bs n h) Q st:=by
 rw[Znu]
 obtain⟨xs,hxs⟩:∃xs,xs=(ar.toList.drop bs).take n:=⟨_,rfl⟩
 rw[←hxs]at hs q
 have hlen:xs.length=n:=by rw[hxs,YAb,YAm,YAN];omega
 have hat:∀i (hi:i<xs.length),ar[bs+i]?=some xs[i]:=by
  intro i hi
  have:xs[i]?=some xs[i]:=YAM hi
  rw[←this,hxs,YCX,YAO (by omega),YCY,YAl]
 have hdx:∀u∈xs,D u:=fun u hu=>hd u (YAZ (YAY (hxs▸hu)))
 refine Zlq (B:=fun i=>if hi:i<xs.length then (if lf then L xs[i] ky else !L ky xs[i]) else false) hh ?_ ?_ ?_
 ·intro i Q hi hq
  have hi':i<xs.length:=by omega
  rw[dif_pos hi']at hq
  refine YAL (ZaZ (hat i hi') ?_)
  have hD:=hdx _ (YBh hi')
  cases lf with
  | true=>exact hP st _ _ _ hk hD hy hq
  | false=>exact YAL (hP st _ _ _ hk hy hD (YAV hq))
 ·intro i j hij hj
  have hj':j<xs.length:=by omega
  have hi':i<xs.length:=by omega
  rw[dif_pos hj',dif_pos hi']
  by_cases e:i=j
  ·subst e;exact id
  ·have hle:Le L xs[i] xs[j]:=YDX.mp hs i j hi' hj' (by omega)
   have hDi:=hdx _ (YBh hi')
   have hDj:=hdx _ (YBh hj')
   cases lf with
   | true=>
    rw[YAO rfl,YAO rfl]
    intro h1
    cases h2:L xs[i] ky with
    | true=>rfl
    | false=>rw[hC.tr ky _ _ hy hDi hDj h2 hle]at h1;cases h1
   | false=>
    rw[YAJ YAC,YAJ YAC]
    intro h1
    rw[Bool.not_eq_true']at h1 ⊢
    exact hC.tr _ _ ky hDi hDj hy hle h1
 ·intro k hk' hp
  refine q k hk' (fun u hu=>?_) (fun u hu=>?_)
  ·obtain⟨i,hi,rfl⟩:=YCt hu
   rw[YAb]at hi
   have:=hp.1 i (by omega)
   dsimp only at this
   rw[dif_pos (by omega)]at this
   rw[List.getElem_take]
   cases lf with
   | true=>exact this
   | false=>simpa using this
  ·obtain⟨i,hi,rfl⟩:=YCt hu
   rw[YAm]at hi
   have:=hp.2 (k+i) (by omega) (by omega)
   dsimp only at this
   rw[dif_pos (by omega)]at this
   rw[List.getElem_drop]
   cases lf with
   | true=>exact this
   | false=>simpa using this
end
abbrev LoC:=Option (Array Keyed)×Array Keyed×Nat×Nat×Nat×Nat×Nat
noncomputable def dnf (p q o:Array Keyed) (i j:Nat):Array Keyed:=o++p.extract i p.size++q.extract j q.size
noncomputable def lpf (p q o:Array Keyed) (i j:Nat):Array Keyed:=o++q.extract j q.size++p.extract i p.size
noncomputable def loE (p q o:Array Keyed) (i j mg ca cb:Nat):StateT SortSt Sem (ForInStep LoC):=do
 let e ←elem' p i
 if (i+1+1 == p.size)=true then pure (ForInStep.done (some (lpf p q (o.push e) (i+1) j),o.push e,i+1,j,mg,ca,cb))
 else if (decide (ca<7)&&decide (cb<7))=true then pure (ForInStep.done (none,o.push e,i+1,j,mg,ca,cb))
 else pure (ForInStep.yield (none,o.push e,i+1,j,mg,ca,cb))
noncomputable def loD (p q o:Array Keyed) (i j mg ca cb:Nat):StateT SortSt Sem (ForInStep LoC):=do
 let e ←elem' q j
 if (j+1 == q.size)=true then pure (ForInStep.done (some (dnf p q (o.push e) i (j+1)),o.push e,i,j+1,mg,ca,cb))
 else do
  let some k ←gal true (←elem' p i) q (j+1) (q.size-(j+1)) 0 | pure (ForInStep.done (some (dnf p q (o.push e) i (j+1)),o.push e,i,j+1,mg,ca,cb))
  if k>0 then
   if (j+1+k == q.size)=true then pure (ForInStep.done (some (dnf p q (o.push e++q.extract (j+1) (j+1+k)) i (j+1+k)),o.push e++q.extract (j+1) (j+1+k),i,j+1+k,mg,ca,k))
   else loE p q (o.push e++q.extract (j+1) (j+1+k)) i (j+1+k) mg ca k
  else loE p q (o.push e) i (j+1) mg ca k
noncomputable def loF (p q o:Array Keyed) (i j mg ca cb:Nat):StateT SortSt Sem (ForInStep LoC):=do
 setG mg
 let some k ←gal false (←elem' q j) p i (p.size-i) 0 | pure (ForInStep.done (some (dnf p q o i j),o,i,j,mg,ca,cb))
 if k>0 then
  if (i+k+1 == p.size)=true then pure (ForInStep.done (some (lpf p q (o++p.extract i (i+k)) (i+k) j),o++p.extract i (i+k),i+k,j,mg,k,cb))
  else if (i+k == p.size)=true then pure (ForInStep.done (some (dnf p q (o++p.extract i (i+k)) (i+k) j),o++p.extract i (i+k),i+k,j,mg,k,cb))
  else loD p q (o++p.extract i (i+k)) (i+k) j mg k cb
 else loD p q o i j mg k cb
section
variable {M:Model}{A:Around}{E:Value→Shared→Prop}{s:Shared}{D:Keyed→Prop}{L:Keyed→Keyed→Bool}{kd:SortKind}{p q:Array Keyed}{T:List Keyed}{st:SortSt}
structure LoI (D:Keyed→Prop)(L:Keyed→Keyed→Bool)(p q:Array Keyed)(T:List Keyed)(o:Array Keyed)(i j:Nat):Prop where
 ms:MS D L T o.toList (p.toList.drop i) (q.toList.drop j)
 li:i+1<p.size
 lj:j<q.size
noncomputable def Fin1 (L:Keyed→Keyed→Bool) (T:List Keyed) (z:Array Keyed):Prop:=z.toList.Perm T∧z.toList.Pairwise (Le L)
theorem Zfn {p:Array Keyed}{i:Nat}{e:Keyed}(h:p[i]?=some e):p.toList.drop i=e::p.toList.drop (i+1):=by
 obtain⟨hi,rfl⟩:=YBw.mp h
 rw[←Array.getElem_toList]
 exact YCF (by simpa using hi)
theorem at? {p:Array Keyed}{i:Nat}(h:i<p.size):∃e,p[i]?=some e∧e∈p.toList:=⟨p[i],getElem?_pos p i h,by simp⟩
theorem ZjE (p q o:Array Keyed)(i j:Nat):(dnf p q o i j).toList=o.toList++p.toList.drop i++q.toList.drop j:=by
 unfold dnf;rw[YBB,YBB,YAw,YAw,List.extract,List.extract,YAq (by simp),YAq (by simp)]
theorem Zjo (p q o:Array Keyed)(i j:Nat):(lpf p q o i j).toList=o.toList++q.toList.drop j++p.toList.drop i:=by
 unfold lpf;rw[YBB,YBB,YAw,YAw,List.extract,List.extract,YAq (by simp),YAq (by simp)]
theorem Zfl (p:Array Keyed)(i k:Nat):(p.extract i (i+k)).toList=(p.toList.drop i).take k:=by
 simp[YAw,List.extract]
theorem Zd3 (l:List Keyed)(i k:Nat):l.drop i=(l.drop i).take k++l.drop (i+k):=by
 rw[←YCn,YAk]
structure LoH (D:Keyed→Prop)(L:Keyed→Keyed→Bool)(p q:Array Keyed):Prop where
 dp:∀u∈p.toList,D u
 dq:∀u∈q.toList,D u
 sp:p.toList.Pairwise (Le L)
 sq:q.toList.Pairwise (Le L)
 last:∀u∈q.toList,∀v∈p.toList.drop (p.size-1),L u v=true
theorem LoH.fin_lp {o:Array Keyed}{i j:Nat}(hH:LoH D L p q)(hC:Cmp D L)(h:MS D L T o.toList (p.toList.drop i) (q.toList.drop j))(e:i+1=p.size):Fin1 L T (lpf p q o i j):=by
 unfold Fin1;rw[Zjo]
 refine h.swap.all fun u hu v hv=>?_
 have hu:=YAZ hu
 have e':i=p.size-1:=by omega
 subst e'
 exact hC.asym _ _ (hH.dq u hu) (hH.dp v (YAZ hv)) (hH.last u hu v hv)
theorem ZgE {o:Array Keyed}{i j:Nat}(h:MS D L T o.toList (p.toList.drop i) (q.toList.drop j))(e:j=q.size):Fin1 L T (dnf p q o i j):=by
 unfold Fin1;rw[ZjE]
 have e2:q.toList.drop j=[]:=YCV (by simp;omega)
 rw[e2]at h ⊢
 simpa using h.fin
noncomputable def LoQ (D:Keyed→Prop) (L:Keyed→Keyed→Bool) (p q:Array Keyed) (T:List Keyed) (w:Nat) (c:LoC):Prop:=
 ∃r o i j mg ca cb,c=(r,o,i,j,mg,ca,cb)∧((∃z,r=some z∧Fin1 L T z)∨(r=none∧LoI D L p q T o i j∧w≤i+j))
noncomputable def LoY (D:Keyed→Prop) (L:Keyed→Keyed→Bool) (p q:Array Keyed) (T:List Keyed) (w:Nat) (c:LoC):Prop:=
 ∃o i j mg ca cb,c=(none,o,i,j,mg,ca,cb)∧LoI D L p q T o i j∧w≤i+j
noncomputable def LoP (D:Keyed→Prop) (L:Keyed→Keyed→Bool) (p q:Array Keyed) (T:List Keyed) (w:Nat) (st:SortSt) (r:ForInStep LoC) (st':SortSt):Prop:=
 (∃g,st'=ZaA st g)∧match r with | .done c=>LoQ D L p q T w c | .yield c=>LoY D L p q T w c
theorem Zj6 {o:Array Keyed}{i j mg ca cb w g:Nat}(hH:LoH D L p q)(hC:Cmp D L)(hi:i+1<p.size)(hj:j<q.size)(hw:w≤i+1+j)(h:MS D L T o.toList (p.toList.drop i) (q.toList.drop j))
  (hle:∀u∈(p.toList.drop i).take 1,∀v∈q.toList.drop j,Le L u v):wpS M A E s (loE p q o i j mg ca cb) (LoP D L p q T w st) (ZaA st g):=by
 obtain⟨e,he,hm⟩:=at? (p:=p) (i:=i) (by omega)
 have hd:=Zfn he
 have h2:MS D L T (o.push e).toList (p.toList.drop (i+1)) (q.toList.drop j):=by
  rw[YBW]
  rw[hd]at h hle
  exact MS.movX (p:=[e]) h (fun u hu v hv=>hle u (by simpa using hu) v hv)
 unfold loE
 refine YAL (ZaZ he ?_)
 by_cases c1:i+1+1=p.size
 ·rw[YAO (by simpa using c1)]
  exact YAV ⟨⟨g,rfl⟩,_,_,_,_,_,_,_,rfl,.inl ⟨_,rfl,hH.fin_lp hC h2 c1⟩⟩
 ·rw[YAJ (by simpa using c1)]
  have hI:LoI D L p q T (o.push e) (i+1) j:=⟨h2,by omega,hj⟩
  split
  ·exact YAV ⟨⟨g,rfl⟩,_,_,_,_,_,_,_,rfl,.inr ⟨rfl,hI,hw⟩⟩
  ·exact YAV ⟨⟨g,rfl⟩,_,_,_,_,_,_,rfl,hI,hw⟩
theorem Zj7 {o:Array Keyed}{i j mg ca cb w g:Nat}(hH:LoH D L p q)(hC:Cmp D L)(hP:PureC M A E s D L kd)(hk:kindOf st=kd)(hi:i+1<p.size)(hj:j<q.size)(hw:w≤i+1+j)(h:MS D L T o.toList (p.toList.drop i) (q.toList.drop j))
  (hle:∀u∈(q.toList.drop j).take 1,∀v∈p.toList.drop i,Le L u v):wpS M A E s (loD p q o i j mg ca cb) (LoP D L p q T w st) (ZaA st g):=by
 obtain⟨e,he,hm⟩:=at? (p:=q) (i:=j) hj
 obtain⟨x,hx,hxm⟩:=at? (p:=p) (i:=i) (by omega)
 have hd:=Zfn he
 have h2:MS D L T (o.push e).toList (p.toList.drop i) (q.toList.drop (j+1)):=by
  rw[YBW]
  rw[hd]at h hle
  exact MS.movY (p:=[e]) h (fun u hu v hv=>hle u (by simpa using hu) v hv)
 unfold loD
 refine YAL (ZaZ he ?_)
 by_cases c1:j+1=q.size
 ·rw[YAO (by simpa using c1)]
  exact YAV ⟨⟨g,rfl⟩,_,_,_,_,_,_,_,rfl,.inl ⟨_,rfl,ZgE h2 c1⟩⟩
 ·rw[YAJ (by simpa using c1)]
  refine YAL (ZaZ hx ?_)
  have et:(q.toList.drop (j+1)).take (q.size-(j+1))=q.toList.drop (j+1):=YAq (by simp)
  refine YAL (Zd0 hC hP (by exact hk) (by omega) (by omega) (hH.dp x hxm) hH.dq (by rw[et];exact h2.sy) ?_)
  rw[et]
  intro k hkn ha hb
  replace ha:∀u∈(q.toList.drop (j+1)).take k,L u x=true:=ha
  replace hb:∀u∈(q.toList.drop (j+1)).drop k,Le L x u:=hb
  dsimp only
  have hpd:=Zfn hx
  have hsx:=h2.sx
  rw[hpd,YBK]at hsx
  have xle:∀v∈p.toList.drop i,Le L x v:=by
   intro v hv
   rw[hpd]at hv
   rcases YAK.mp hv with rfl | hv
   ·cases hx:L v v with
    | false=>exact hx
    | true=>exact hC.asym v v (hH.dp v hxm) (hH.dp v hxm) hx
   ·exact hsx.1 v hv
  have h3:MS D L T (o.push e++q.extract (j+1) (j+1+k)).toList (p.toList.drop i) (q.toList.drop (j+1+k)):=by
   rw[YBB,Zfl]
   rw[Zd3 q.toList (j+1) k]at h2
   refine h2.movY fun u hu v hv=>?_
   have hDu:=hH.dq u (YAZ (YAY hu))
   exact hC.tr u x v hDu (hH.dp x hxm) (hH.dp v (YAZ hv)) (hC.asym u x hDu (hH.dp x hxm) (ha u hu)) (xle v hv)
  have hle2:∀u∈(p.toList.drop i).take 1,∀v∈q.toList.drop (j+1+k),Le L u v:=by
   intro u hu v hv
   rw[hpd]at hu
   have:u=x:=by simpa using hu
   subst this
   exact hb v (by rwa [YCn])
  by_cases hk0:k>0
  ·rw[YAO hk0]
   by_cases c2:j+1+k=q.size
   ·rw[YAO (by simpa using c2)]
    exact YAV ⟨⟨g,rfl⟩,_,_,_,_,_,_,_,rfl,.inl ⟨_,rfl,ZgE h3 c2⟩⟩
   ·rw[YAJ (by simpa using c2)]
    exact Zj6 hH hC hi (by omega) (by omega) h3 hle2
  ·rw[YAJ hk0]
   have:k=0:=by omega
   subst this
   exact Zj6 hH hC hi (by omega) (by omega) h2 hle2
theorem Zm1 {o:Array Keyed}{i j mg ca cb w g:Nat}(hH:LoH D L p q)(hC:Cmp D L)(hP:PureC M A E s D L kd)(hk:kindOf st=kd)(hw:w≤i+1+j)(hI:LoI D L p q T o i j):
  wpS M A E s (loF p q o i j mg ca cb) (LoP D L p q T w st) (ZaA st g):=by
 obtain⟨h,hi,hj⟩:=hI
 obtain⟨x,hx,hxm⟩:=at? (p:=q) (i:=j) hj
 have hqd:=Zfn hx
 have hsy:=h.sy
 rw[hqd,YBK]at hsy
 have xle:∀v∈q.toList.drop j,Le L x v:=by
  intro v hv
  rw[hqd]at hv
  rcases YAK.mp hv with rfl | hv
  ·cases hx:L v v with
   | false=>exact hx
   | true=>exact hC.asym v v (hH.dq v hxm) (hH.dq v hxm) hx
  ·exact hsy.1 v hv
 unfold loF
 refine YAL (YCG ?_)
 refine YAL (ZaZ hx ?_)
 have et:(p.toList.drop i).take (p.size-i)=p.toList.drop i:=YAq (by simp)
 refine YAL (Zd0 hC hP (by exact hk) (by omega) (by omega) (hH.dq x hxm) hH.dp (by rw[et];exact h.sx) ?_)
 rw[et]
 intro k hkn ha hb
 replace ha:∀u∈(p.toList.drop i).take k,Le L u x:=ha
 replace hb:∀u∈(p.toList.drop i).drop k,L x u=true:=hb
 dsimp only
 have h3:MS D L T (o++p.extract i (i+k)).toList (p.toList.drop (i+k)) (q.toList.drop j):=by
  rw[YBB,Zfl]
  rw[Zd3 p.toList i k]at h
  refine h.movX fun u hu v hv=>?_
  exact hC.tr u x v (hH.dp u (YAZ (YAY hu))) (hH.dq x hxm) (hH.dq v (YAZ hv)) (ha u hu) (xle v hv)
 have hle2:∀u∈(q.toList.drop j).take 1,∀v∈p.toList.drop (i+k),Le L u v:=by
  intro u hu v hv
  rw[hqd]at hu
  have:u=x:=by simpa using hu
  subst this
  have hv':v∈(p.toList.drop i).drop k:=by rwa [YCn]
  exact hC.asym u v (hH.dq u hxm) (hH.dp v (YAZ hv)) (hb v hv')
 have hlast:i+k≠p.size:=by
  intro e
  obtain⟨y,hy,hym⟩:=at? (p:=p) (i:=p.size-1) (by omega)
  have hyd:=Zfn hy
  have h5:=hH.last x hxm y (by rw[hyd];simp)
  have hy2:y∈(p.toList.drop i).take k:=by
   rw[YAq (by simp;omega)]
   have:y∈p.toList.drop (p.size-1):=by rw[hyd];simp
   rw[show p.size-1=i+(p.size-1-i) by omega,←YCn]at this
   exact YAZ this
  have h6:=ha y hy2
  rw[show L x y=false from h6]at h5
  cases h5
 by_cases hk0:k>0
 ·rw[YAO hk0]
  by_cases c2:i+k+1=p.size
  ·rw[YAO (by simpa using c2)]
   exact YAV ⟨⟨_,rfl⟩,_,_,_,_,_,_,_,rfl,.inl ⟨_,rfl,hH.fin_lp hC h3 c2⟩⟩
  ·rw[YAJ (by simpa using c2),YAJ (by simpa using hlast)]
   exact Zj7 hH hC hP hk (by omega) hj (by omega) h3 hle2
 ·rw[YAJ hk0]
  have:k=0:=by omega
  subst this
  exact Zj7 hH hC hP hk hi hj hw h hle2
theorem ZmV {Q:Array Keyed→SortSt→Prop}(hH:LoH D L p q)(hC:Cmp D L)(hP:PureC M A E s D L kd)(hk:kindOf st=kd)(hp:0<p.size)(hq:0<q.size)
  (h0:∀u∈q.toList.take 1,∀v∈p.toList,Le L u v) (hQ:∀z g,Fin1 L (p.toList++q.toList) z→Q z (ZaA st g)):wpS M A E s (mLo p q) Q st:=by
 rw[ZmW];unfold mLoB
 obtain⟨e,he,hm⟩:=at? (p:=q) (i:=0) hq
 have hd:q.toList=e::q.toList.drop 1:=by simpa using Zfn he
 have h1:MS D L (p.toList++q.toList) (#[e]:Array Keyed).toList (p.toList.drop 0) (q.toList.drop 1):=by
  have:MS D L (p.toList++q.toList) [] p.toList ([e]++q.toList.drop 1):=⟨by rw[hd];simp,List.Pairwise.nil,by simp,by simp,hH.sp,by have:=hH.sq;rw[hd]at this;exact this⟩
  refine this.movY fun u hu v hv=>h0 u ?_ v hv
  rw[hd];simpa using hu
 refine YAL (wpS_lift (YBo ⟨rfl,?_⟩))
 refine YAL (ZaZ he ?_)
 by_cases c1:1=q.size
 ·rw[YAO (by simpa using c1)]
  exact YAV (hQ _ _ (ZgE h1 c1))
 rw[YAJ (by simpa using c1)]
 by_cases c2:0+1=p.size
 ·rw[YAO (by simpa using c2)]
  exact YAV (hQ _ _ (hH.fin_lp hC h1 c2))
 rw[YAJ (by simpa using c2)]
 refine YAL (YDK ?_)
 have hI:LoI D L p q (p.toList++q.toList) #[e] 0 1:=⟨h1,by omega,by omega⟩
 generalize p.toList++q.toList=T at hI hQ
 refine YAL (YBv (YBL (I:=fun x c st'=>∃g,st'=ZaA st g∧∃o i j mg,c=(none,o,i,j,mg)∧LoI D L p q T o i j∧x≤i+j)
  (Q:=fun c st'=>∃g,st'=ZaA st g∧∃z o i j mg,c=(some z,o,i,j,mg)∧Fin1 L T z) ?step ?fin ⟨gallopOf st,rfl,_,_,_,_,rfl,hI,by omega⟩) ?post)
 case post=>
  rintro c st' ⟨g,rfl,z,o,i,j,mg,rfl,hz⟩
  exact YAV (hQ z g hz)
 case fin=>
  rintro c st' ⟨g,rfl,o,i,j,mg,rfl,hI,hx⟩
  have:=hI.li;have:=hI.lj
  omega
 case step=>
  rintro x c st' _ hx ⟨g,rfl,o,i,j,mg,rfl,hI,hxi⟩
  dsimp only
  refine YAL (YBv (YBL (I:=fun y c st'=>st'=ZaA st g∧∃o i j ca cb,c=(none,o,i,j,ca,cb)∧LoI D L p q T o i j∧y+x≤i+j)
   (Q:=fun c st'=>st'=ZaA st g∧∃r o i j ca cb,c=(r,o,i,j,ca,cb)∧((∃z,r=some z∧Fin1 L T z)∨(r=none∧LoI D L p q T o i j∧x+1≤i+j))) ?s1 ?f1 ⟨rfl,_,_,_,_,_,rfl,hI,by omega⟩) ?p1)
  case f1=>
   rintro c st' ⟨rfl,o,i,j,ca,cb,rfl,hI,hx⟩
   have:=hI.li;have:=hI.lj
   omega
  case s1=>
   rintro y c st' _ hy ⟨rfl,o,i,j,ca,cb,rfl,hI,hxi⟩
   obtain⟨h,hi,hj⟩:=hI
   obtain⟨u,hu,hum⟩:=at? (p:=q) (i:=j) hj
   obtain⟨v,hv,hvm⟩:=at? (p:=p) (i:=i) (by omega)
   have hDu:=hH.dq u hum
   have hDv:=hH.dp v hvm
   have hqd:=Zfn hu
   have hpd:=Zfn hv
   have hsx:=h.sx
   have hsy:=h.sy
   rw[hpd,YBK]at hsx
   rw[hqd,YBK]at hsy
   dsimp only
   refine YAL (ZaZ hu (YAL (ZaZ hv (YAL (hP _ _ _ _ hk hDu hDv ?_)))))
   dsimp only
   cases hL:L u v with
   | true=>
    rw[YAO rfl]
    refine YAL (ZaZ hu ?_)
    have h2:MS D L T (o.push u).toList (p.toList.drop i) (q.toList.drop (j+1)):=by
     rw[YBW]
     rw[hqd]at h
     refine MS.movY (p:=[u]) h fun a ha b hb=>?_
     have ha:a=u:=by simpa using ha
     subst ha
     have hav:Le L a v:=hC.asym _ _ hDu hDv hL
     rw[hpd]at hb
     rcases YAK.mp hb with rfl | hb
     ·exact hav
     ·exact hC.tr a v b hDu hDv (hH.dp b (YAZ hb)) hav (hsx.1 b hb)
    by_cases c3:j+1=q.size
    ·rw[YAO (by simpa using c3)]
     exact YAV ⟨rfl,_,_,_,_,_,_,rfl,.inl ⟨_,rfl,ZgE h2 c3⟩⟩
    ·rw[YAJ (by simpa using c3)]
     have hI:LoI D L p q T (o.push u) i (j+1):=⟨h2,hi,by omega⟩
     split
     ·exact YAV ⟨rfl,_,_,_,_,_,_,rfl,.inr ⟨rfl,hI,by omega⟩⟩
     ·exact YAV ⟨rfl,_,_,_,_,_,rfl,hI,by omega⟩
   | false=>
    rw[YAJ YAC]
    refine YAL (ZaZ hv ?_)
    have h2:MS D L T (o.push v).toList (p.toList.drop (i+1)) (q.toList.drop j):=by
     rw[YBW]
     rw[hpd]at h
     refine MS.movX (p:=[v]) h fun a ha b hb=>?_
     have ha:a=v:=by simpa using ha
     subst ha
     rw[hqd]at hb
     rcases YAK.mp hb with rfl | hb
     ·exact hL
     ·exact hC.tr a u b hDv hDu (hH.dq b (YAZ hb)) hL (hsy.1 b hb)
    by_cases c3:i+1+1=p.size
    ·rw[YAO (by simpa using c3)]
     exact YAV ⟨rfl,_,_,_,_,_,_,rfl,.inl ⟨_,rfl,hH.fin_lp hC h2 c3⟩⟩
    ·rw[YAJ (by simpa using c3)]
     have hI:LoI D L p q T (o.push v) (i+1) j:=⟨h2,by omega,hj⟩
     split
     ·exact YAV ⟨rfl,_,_,_,_,_,_,rfl,.inr ⟨rfl,hI,by omega⟩⟩
     ·exact YAV ⟨rfl,_,_,_,_,_,rfl,hI,by omega⟩
  case p1=>
   rintro c st' ⟨rfl,r,o,i,j,ca,cb,rfl,⟨z,rfl,hz⟩|⟨rfl,hI,hw⟩⟩
   ·exact YAV ⟨g,rfl,z,o,i,j,mg,rfl,hz⟩
   ·dsimp only
    refine YAL (wpS_lift (YBo ⟨rfl,?_⟩))
    refine YAL (YBv (YBL (I:=fun y c st'=>(∃g,st'=ZaA st g)∧LoY D L p q T (y+(x+1)) c)
     (Q:=fun c st'=>(∃g,st'=ZaA st g)∧LoQ D L p q T (x+1) c) ?s2 ?f2 ⟨⟨g,rfl⟩,_,_,_,_,_,_,rfl,hI,by omega⟩) ?p2)
    case f2=>
     rintro c st' ⟨_,o,i,j,mg,ca,cb,rfl,hI,hx⟩
     have:=hI.li;have:=hI.lj
     omega
    case p2=>
     rintro c st' ⟨⟨g,rfl⟩,r,o,i,j,mg,ca,cb,rfl,⟨z,rfl,hz⟩|⟨rfl,hI,hw⟩⟩
     ·exact YAV ⟨g,rfl,z,o,i,j,mg,rfl,hz⟩
     ·exact YAL (YCG (YAV ⟨_,rfl,_,_,_,_,rfl,hI,hw⟩))
    case s2=>
     rintro y c st' _ hy ⟨⟨g,rfl⟩,o,i,j,mg,ca,cb,rfl,hI,hw⟩
     have key:∀mg,wpS M A E s (loF p q o i j mg ca cb) (fun r st'=>match r with | .done c'=>(∃g,st'=ZaA st g)∧LoQ D L p q T (x+1) c' | .yield c'=>(∃g,st'=ZaA st g)∧LoY D L p q T (y+1+(x+1)) c') (ZaA st g):=by
      intro mg
      refine YBv (Zm1 (w:=y+1+(x+1)) hH hC hP hk (by omega) hI) ?_
      rintro r st' ⟨hg,hr⟩
      cases r with
      | done c=>
       obtain⟨r,o,i,j,mg,ca,cb,rfl,h | ⟨rfl,hI,hw⟩⟩:=hr
       ·exact⟨hg,r,o,i,j,mg,ca,cb,rfl,.inl h⟩
       ·exact⟨hg,none,o,i,j,mg,ca,cb,rfl,.inr ⟨rfl,hI,by omega⟩⟩
      | yield c=>exact⟨hg,hr⟩
     have key2:wpS M A E s (if mg>1 then loF p q o i j (mg-1) ca cb else loF p q o i j mg ca cb) (fun r st'=>match r with | .done c'=>(∃g,st'=ZaA st g)∧LoQ D L p q T (x+1) c' | .yield c'=>(∃g,st'=ZaA st g)∧LoY D L p q T (y+1+(x+1)) c') (ZaA st g):=by
      split
      ·exact key _
      ·exact key _
     refine YBv (Q:=fun r st'=>match r with | .done c'=>(∃g,st'=ZaA st g)∧LoQ D L p q T (x+1) c' | .yield c'=>(∃g,st'=ZaA st g)∧LoY D L p q T (y+1+(x+1)) c') ?_ (fun r st' hr=>by cases r<;>exact hr)
     by_cases hmg:mg>1
     ·rw[YAO (show (none,o,i,j,mg,ca,cb).snd.snd.snd.snd.fst>1 from hmg)]
      refine Eq.mp ?_ (key (mg-1))
      refine congrArg (fun m=>wpS M A E s m _ _) ?_
      unfold loF loD loE lpf dnf
      dsimp only
     ·rw[YAJ (show ¬(none,o,i,j,mg,ca,cb).snd.snd.snd.snd.fst>1 from hmg)]
      exact key mg
end
noncomputable def mHi:Array Keyed→Array Keyed→StateT SortSt Sem (Array Keyed):=sortPriv% PySem.Builtin.mergeHi
noncomputable def mHiB (p q:Array Keyed):StateT SortSt Sem (Array Keyed):=do
 rule "list.sort.merge-hi"
 let tt:=p.size+q.size
 let dn (o:Array Keyed) (i j:Nat):=p.extract 0 i++q.extract 0 j++o.reverse
 let fb (o:Array Keyed) (i j:Nat):=q.extract 0 j++p.extract 0 i++o.reverse
 let mut i:=p.size-1
 let mut j:=q.size
 let mut o:Array Keyed:=#[←elem' p i]
 if i == 0 then return dn o i j
 if j == 1 then return fb o i j
 let mut mg:=gallopOf (←get)
 for _ in [0:tt] do
  let mut ca:=0
  let mut cb:=0
  for _ in [0:tt] do
   let some wn ←lt' (←elem' q (j-1)) (←elem' p (i-1)) | return dn o i j
   if wn then
    i:=i-1;o:=o.push (←elem' p i);ca:=ca+1;cb:=0
    if i == 0 then return dn o i j
    if ca≥mg then break
   else
    j:=j-1;o:=o.push (←elem' q j);cb:=cb+1;ca:=0
    if j == 1 then return fb o i j
    if cb≥mg then break
  rule "list.sort.gallop"
  mg:=mg+1
  for _ in [0:tt] do
   if mg>1 then mg:=mg-1
   setG mg
   let some a ←gal false (←elem' q (j-1)) p 0 i (i-1) | return dn o i j
   let k:=i-a
   ca:=k
   if k>0 then
    o:=o++(p.extract a i).reverse;i:=a
    if i == 0 then return dn o i j
   j:=j-1;o:=o.push (←elem' q j)
   if j == 1 then return fb o i j
   let some a ←gal true (←elem' p (i-1)) q 0 j (j-1) | return dn o i j
   let k:=j-a
   cb:=k
   if k>0 then
    o:=o++(q.extract a j).reverse;j:=a
    if j == 1 then return fb o i j
    if j == 0 then return dn o i j
   i:=i-1;o:=o.push (←elem' p i)
   if i == 0 then return dn o i j
   if ca<7&&cb<7 then break
  mg:=mg+1
  setG mg
 unsupported "internal:list.sort.merge-bound"
theorem ZmY (p q:Array Keyed):mHi p q=mHiB p q:=rfl
abbrev HiC:=Option (Array Keyed)×Nat×Nat×Array Keyed×Nat×Nat×Nat
noncomputable def dnh (p q o:Array Keyed) (i j:Nat):Array Keyed:=p.extract 0 i++q.extract 0 j++o.reverse
noncomputable def fbh (p q o:Array Keyed) (i j:Nat):Array Keyed:=q.extract 0 j++p.extract 0 i++o.reverse
noncomputable def hiE (p q o:Array Keyed) (i j mg ca cb:Nat):StateT SortSt Sem (ForInStep HiC):=do
 let e ←elem' p (i-1)
 if (i-1 == 0)=true then pure (ForInStep.done (some (dnh p q (o.push e) (i-1) j),i-1,j,o.push e,mg,ca,cb))
 else if (decide (ca<7)&&decide (cb<7))=true then pure (ForInStep.done (none,i-1,j,o.push e,mg,ca,cb))
 else pure (ForInStep.yield (none,i-1,j,o.push e,mg,ca,cb))
noncomputable def hiD (p q o:Array Keyed) (i j mg ca cb:Nat):StateT SortSt Sem (ForInStep HiC):=do
 let e ←elem' q (j-1)
 if (j-1 == 1)=true then pure (ForInStep.done (some (fbh p q (o.push e) i (j-1)),i,j-1,o.push e,mg,ca,cb))
 else do
  let some a ←gal true (←elem' p (i-1)) q 0 (j-1) (j-1-1) | pure (ForInStep.done (some (dnh p q (o.push e) i (j-1)),i,j-1,o.push e,mg,ca,cb))
  if j-1-a>0 then
   if (a == 1)=true then pure (ForInStep.done (some (fbh p q (o.push e++(q.extract a (j-1)).reverse) i a),i,a,o.push e++(q.extract a (j-1)).reverse,mg,ca,j-1-a))
   else if (a == 0)=true then pure (ForInStep.done (some (dnh p q (o.push e++(q.extract a (j-1)).reverse) i a),i,a,o.push e++(q.extract a (j-1)).reverse,mg,ca,j-1-a))
   else hiE p q (o.push e++(q.extract a (j-1)).reverse) i a mg ca (j-1-a)
  else hiE p q (o.push e) i (j-1) mg ca (j-1-a)
noncomputable def hiF (p q o:Array Keyed) (i j mg ca cb:Nat):StateT SortSt Sem (ForInStep HiC):=do
 setG mg
 let some a ←gal false (←elem' q (j-1)) p 0 i (i-1) | pure (ForInStep.done (some (dnh p q o i j),i,j,o,mg,ca,cb))
 if i-a>0 then
  if (a == 0)=true then pure (ForInStep.done (some (dnh p q (o++(p.extract a i).reverse) a j),a,j,o++(p.extract a i).reverse,mg,i-a,cb))
  else hiD p q (o++(p.extract a i).reverse) a j mg (i-a) cb
 else hiD p q o i j mg (i-a) cb
section
variable {M:Model}{A:Around}{E:Value→Shared→Prop}{s:Shared}{D:Keyed→Prop}{L:Keyed→Keyed→Bool}{kd:SortKind}{p q:Array Keyed}{T:List Keyed}{st:SortSt}
noncomputable abbrev Fl (L:Keyed→Keyed→Bool):Keyed→Keyed→Bool:=fun x y=>L y x
theorem ZjY {l:List Keyed}:l.reverse.Pairwise (Le (Fl L))↔l.Pairwise (Le L):=by rw[List.pairwise_reverse]
abbrev MR (D:Keyed→Prop)(L:Keyed→Keyed→Bool)(T:List Keyed)(p q o:Array Keyed)(i j:Nat):Prop:=MS D (Fl L) T o.toList (p.toList.take i).reverse (q.toList.take j).reverse
structure HiI (D:Keyed→Prop)(L:Keyed→Keyed→Bool)(p q:Array Keyed)(T:List Keyed)(o:Array Keyed)(i j:Nat):Prop where
 ms:MR D L T p q o i j
 li:0<i
 lj:1<j
 hi:i≤p.size
 hj:j≤q.size
structure HiH (D:Keyed→Prop)(L:Keyed→Keyed→Bool)(p q:Array Keyed):Prop where
 dp:∀u∈p.toList,D u
 dq:∀u∈q.toList,D u
 sp:p.toList.Pairwise (Le L)
 sq:q.toList.Pairwise (Le L)
 first:∀u∈q.toList.take 1,∀v∈p.toList,L u v=true
theorem ZgP {p:Array Keyed}{i:Nat}{e:Keyed}(hi:0<i)(h:p[i-1]?=some e):p.toList.take i=p.toList.take (i-1)++[e]:=by
 obtain⟨i,rfl⟩:∃k,i=k+1:=⟨i-1,by omega⟩
 rw[Nat.add_sub_cancel]at h ⊢
 rw[List.take_succ,YAl,h];rfl
theorem ZiT {p:Array Keyed}{i:Nat}{e:Keyed}(hi:0<i)(h:p[i-1]?=some e):(p.toList.take i).reverse=[e]++(p.toList.take (i-1)).reverse:=by
 rw[ZgP hi h,List.reverse_append];rfl
theorem ZdS (l:List Keyed){a i:Nat}(h:a≤i):(l.take i).reverse=((l.take i).drop a).reverse++(l.take a).reverse:=by
 rw[←List.reverse_append]
 congr 1
 have:l.take a=(l.take i).take a:=by rw[YCT,YBp h]
 rw[this,YAk]
theorem Znw (p:Array Keyed)(a i:Nat):(p.extract a i).reverse.toList=((p.toList.take i).drop a).reverse:=by
 rw[Array.toList_reverse,YAw,List.extract,List.drop_take]
theorem ZjD (p q o:Array Keyed)(i j:Nat):(dnh p q o i j).toList=p.toList.take i++q.toList.take j++o.toList.reverse:=by
 unfold dnh;rw[YBB,YBB,YAw,YAw,Array.toList_reverse,List.extract,List.extract];simp
theorem ZjC (p q o:Array Keyed)(i j:Nat):(fbh p q o i j).toList=q.toList.take j++p.toList.take i++o.toList.reverse:=by
 unfold fbh;rw[YBB,YBB,YAw,YAw,Array.toList_reverse,List.extract,List.extract];simp
theorem Ziu {l m:List Keyed}(h:l.Perm T∧l.Pairwise (Le (Fl L)))(e:m=l.reverse):m.Perm T∧m.Pairwise (Le L):=by
 subst e
 refine⟨(List.reverse_perm l).trans h.1,?_⟩
 rw[List.pairwise_reverse];exact h.2
theorem ZgF {o:Array Keyed}{i j:Nat}(h:MR D L T p q o i j)(e:i=0):Fin1 L T (dnh p q o i j):=by
 unfold Fin1;rw[ZjD]
 subst e
 have h':=h.swap
 exact Ziu (l:=o.toList++(q.toList.take j).reverse) (MS.fin (D:=D) (by simpa using h')) (by simp)
theorem HiH.fin_fb {o:Array Keyed}{i j:Nat}(hH:HiH D L p q)(hC:Cmp D L)(h:MR D L T p q o i j)(e:j=1):Fin1 L T (fbh p q o i j):=by
 unfold Fin1;rw[ZjC]
 subst e
 refine Ziu (h.all fun u hu v hv=>?_) (by simp)
 have hu:u∈p.toList:=YAY (YBS.mp hu)
 have hv:=YBS.mp hv
 exact hC.asym v u (hH.dq v (YAY hv)) (hH.dp u hu) (hH.first v hv u hu)
noncomputable def HiQ (D:Keyed→Prop) (L:Keyed→Keyed→Bool) (p q:Array Keyed) (T:List Keyed) (w:Nat) (c:HiC):Prop:=
 ∃r o i j mg ca cb,c=(r,i,j,o,mg,ca,cb)∧((∃z,r=some z∧Fin1 L T z)∨(r=none∧HiI D L p q T o i j∧i+j≤w))
noncomputable def HiY (D:Keyed→Prop) (L:Keyed→Keyed→Bool) (p q:Array Keyed) (T:List Keyed) (w:Nat) (c:HiC):Prop:=
 ∃o i j mg ca cb,c=(none,i,j,o,mg,ca,cb)∧HiI D L p q T o i j∧i+j≤w
noncomputable def HiP (D:Keyed→Prop) (L:Keyed→Keyed→Bool) (p q:Array Keyed) (T:List Keyed) (w:Nat) (st:SortSt) (r:ForInStep HiC) (st':SortSt):Prop:=
 (∃g,st'=ZaA st g)∧match r with | .done c=>HiQ D L p q T w c | .yield c=>HiY D L p q T w c
theorem Zkb {o:Array Keyed}{i j mg ca cb w g:Nat}(hH:HiH D L p q)(hi:0<i)(hip:i≤p.size)(hj:1<j)(hjq:j≤q.size)(hw:i-1+j≤w)(h:MR D L T p q o i j)
  (hle:∀u∈(p.toList.take i).drop (i-1),∀v∈q.toList.take j,Le L v u):wpS M A E s (hiE p q o i j mg ca cb) (HiP D L p q T w st) (ZaA st g):=by
 obtain⟨e,he,hm⟩:=at? (p:=p) (i:=i-1) (by omega)
 have hd:=ZiT hi he
 have h2:MR D L T p q (o.push e) (i-1) j:=by
  unfold MR at h ⊢
  rw[YBW]
  rw[hd]at h
  refine MS.movX h fun u hu v hv=>?_
  have hu:u=e:=by simpa using hu
  subst hu
  refine hle u ?_ v (YBS.mp hv)
  rw[ZgP hi he,YCS (by simp;omega)]
  simp
 unfold hiE
 refine YAL (ZaZ he ?_)
 by_cases c1:i-1=0
 ·rw[YAO (by simpa using c1)]
  exact YAV ⟨⟨g,rfl⟩,_,_,_,_,_,_,_,rfl,.inl ⟨_,rfl,ZgF h2 c1⟩⟩
 ·rw[YAJ (by simpa using c1)]
  have hI:HiI D L p q T (o.push e) (i-1) j:=⟨h2,by omega,hj,by omega,hjq⟩
  split
  ·exact YAV ⟨⟨g,rfl⟩,_,_,_,_,_,_,_,rfl,.inr ⟨rfl,hI,hw⟩⟩
  ·exact YAV ⟨⟨g,rfl⟩,_,_,_,_,_,_,rfl,hI,hw⟩
theorem le_refl' (hC:Cmp D L){v:Keyed}(h:D v):Le L v v:=by
 cases hx:L v v with
 | false=>exact hx
 | true=>exact hC.asym v v h h hx
theorem Zel (hC:Cmp D L)(hd:∀u∈p.toList,D u)(hs:p.toList.Pairwise (Le L)){i:Nat}{x:Keyed}(hi:0<i)(hx:p[i-1]?=some x)(hm:x∈p.toList):∀v∈p.toList.take i,Le L v x:=by
 intro v hv
 have h2:=hs.sublist (YCg i p.toList)
 rw[ZgP hi hx]at h2 hv
 rcases YAe.mp hv with hv | hv
 ·exact(YBH.mp h2).2.2 v hv x (by simp)
 ·have:v=x:=by simpa using hv
  subst this;exact le_refl' hC (hd v hm)
theorem ZdC {i:Nat}{x u:Keyed}(hi:0<i)(hip:i≤p.size)(hx:p[i-1]?=some x):u∈(p.toList.take i).drop (i-1)↔u=x:=by
 rw[ZgP hi hx,YCS (by simp;omega),YCV (by simp;omega)]
 simp
theorem Zkc {o:Array Keyed}{i j mg ca cb w g:Nat}(hH:HiH D L p q)(hC:Cmp D L)(hP:PureC M A E s D L kd)(hk:kindOf st=kd)(hi:0<i)(hip:i≤p.size)(hj:1<j)(hjq:j≤q.size)(hw:i-1+j≤w)
  (h:MR D L T p q o i j) (hle:∀v∈(q.toList.take j).drop (j-1),∀u∈p.toList.take i,Le L u v):wpS M A E s (hiD p q o i j mg ca cb) (HiP D L p q T w st) (ZaA st g):=by
 obtain⟨e,he,hm⟩:=at? (p:=q) (i:=j-1) (by omega)
 obtain⟨x,hx,hxm⟩:=at? (p:=p) (i:=i-1) (by omega)
 have h2:MR D L T p q (o.push e) i (j-1):=by
  unfold MR at h ⊢
  rw[YBW]
  rw[ZiT (by omega) he]at h
  refine MS.movY h fun u hu v hv=>?_
  have hu:u=e:=by simpa using hu
  exact hle u ((ZdC (by omega) hjq he).mpr hu) v (YBS.mp hv)
 unfold hiD
 refine YAL (ZaZ he ?_)
 by_cases c1:j-1=1
 ·rw[YAO (by simpa using c1)]
  exact YAV ⟨⟨g,rfl⟩,_,_,_,_,_,_,_,rfl,.inl ⟨_,rfl,hH.fin_fb hC h2 c1⟩⟩
 ·rw[YAJ (by simpa using c1)]
  refine YAL (ZaZ hx ?_)
  refine YAL (Zd0 hC hP (by exact hk) (by omega) (by omega) (hH.dp x hxm) hH.dq (by rw[YBb];exact hH.sq.sublist (YCg _ _)) ?_)
  rw[YBb]
  intro a hkn ha hb
  replace ha:∀u∈(q.toList.take (j-1)).take a,L u x=true:=ha
  replace hb:∀u∈(q.toList.take (j-1)).drop a,Le L x u:=hb
  rw[YCT,YBp hkn]at ha
  dsimp only
  have xge:=Zel hC hH.dp hH.sp hi hx hxm
  have h3:MR D L T p q (o.push e++(q.extract a (j-1)).reverse) i a:=by
   unfold MR at h2 ⊢
   rw[YBB,Znw]
   rw[ZdS q.toList hkn]at h2
   refine h2.movY fun u hu v hv=>?_
   have hu:=YBS.mp hu
   have hv:=YBS.mp hv
   exact hC.tr v x u (hH.dp v (YAY hv)) (hH.dp x hxm) (hH.dq u (YAY (YAZ hu))) (xge v hv) (hb u hu)
  have hle2:∀u∈(p.toList.take i).drop (i-1),∀v∈q.toList.take a,Le L v u:=by
   intro u hu v hv
   have:=(ZdC hi hip hx).mp hu
   subst this
   exact hC.asym v u (hH.dq v (YAY hv)) (hH.dp u hxm) (ha v hv)
  have ha0:a≠0:=by
   rintro rfl
   obtain⟨y,hy,hym⟩:=at? (p:=q) (i:=0) (by omega)
   have hyq:q.toList.take 1=[y]:=by have:=ZgP (p:=q) (i:=1) (by omega) hy;simpa using this
   have h5:=hH.first y (by rw[hyq];simp) x hxm
   have h6:y∈q.toList.take (j-1):=by
    have:q.toList.take 1=(q.toList.take (j-1)).take 1:=by rw[YCT,YBp (by omega)]
    rw[this]at hyq
    exact YAY (i:=1) (by rw[hyq];simp)
   rw[show L y x=false from hb y h6]at h5
   cases h5
  by_cases hk0:j-1-a>0
  ·rw[YAO hk0]
   by_cases c2:a=1
   ·rw[YAO (by simpa using c2)]
    exact YAV ⟨⟨g,rfl⟩,_,_,_,_,_,_,_,rfl,.inl ⟨_,rfl,hH.fin_fb hC h3 c2⟩⟩
   ·rw[YAJ (by simpa using c2),YAJ (by simpa using ha0)]
    exact Zkb hH hi hip (by omega) (by omega) (by omega) h3 hle2
  ·rw[YAJ hk0]
   have:a=j-1:=by omega
   subst this
   exact Zkb hH hi hip (by omega) (by omega) (by omega) h2 hle2
theorem Zns {o:Array Keyed}{i j mg ca cb w g:Nat}(hH:HiH D L p q)(hC:Cmp D L)(hP:PureC M A E s D L kd)(hk:kindOf st=kd)(hw:i-1+j≤w)(hI:HiI D L p q T o i j):
  wpS M A E s (hiF p q o i j mg ca cb) (HiP D L p q T w st) (ZaA st g):=by
 obtain⟨h,hi,hj,hip,hjq⟩:=hI
 obtain⟨x,hx,hxm⟩:=at? (p:=q) (i:=j-1) (by omega)
 unfold hiF
 refine YAL (YCG ?_)
 refine YAL (ZaZ hx ?_)
 refine YAL (Zd0 hC hP (by exact hk) (by omega) (by omega) (hH.dq x hxm) hH.dp (by rw[YBb];exact hH.sp.sublist (YCg _ _)) ?_)
 rw[YBb]
 intro a hkn ha hb
 replace ha:∀u∈(p.toList.take i).take a,Le L u x:=ha
 replace hb:∀u∈(p.toList.take i).drop a,L x u=true:=hb
 rw[YCT,YBp hkn]at ha
 dsimp only
 have xge:=Zel hC hH.dq hH.sq (by omega) hx hxm
 have h3:MR D L T p q (o++(p.extract a i).reverse) a j:=by
  unfold MR at h ⊢
  rw[YBB,Znw]
  rw[ZdS p.toList hkn]at h
  refine h.movX fun u hu v hv=>?_
  have hu:=YBS.mp hu
  have hv:=YBS.mp hv
  have hDu:=hH.dp u (YAY (YAZ hu))
  exact hC.tr v x u (hH.dq v (YAY hv)) (hH.dq x hxm) hDu (xge v hv) (hC.asym x u (hH.dq x hxm) hDu (hb u hu))
 have hle2:∀v∈(q.toList.take j).drop (j-1),∀u∈p.toList.take a,Le L u v:=by
  intro v hv u hu
  have:=(ZdC (by omega) hjq hx).mp hv
  subst this
  exact ha u hu
 by_cases hk0:i-a>0
 ·rw[YAO hk0]
  by_cases c2:a=0
  ·rw[YAO (by simpa using c2)]
   exact YAV ⟨⟨_,rfl⟩,_,_,_,_,_,_,_,rfl,.inl ⟨_,rfl,ZgF h3 c2⟩⟩
  ·rw[YAJ (by simpa using c2)]
   exact Zkc hH hC hP hk (by omega) (by omega) hj hjq (by omega) h3 hle2
 ·rw[YAJ hk0]
  have:a=i:=by omega
  subst this
  exact Zkc hH hC hP hk hi hip hj hjq hw h hle2
theorem ZmX {Q:Array Keyed→SortSt→Prop}(hH:HiH D L p q)(hC:Cmp D L)(hP:PureC M A E s D L kd)(hk:kindOf st=kd)(hp:0<p.size)(hq:0<q.size)
  (h0:∀u∈p.toList.drop (p.size-1),∀v∈q.toList,Le L v u) (hQ:∀z g,Fin1 L (p.toList++q.toList) z→Q z (ZaA st g)):wpS M A E s (mHi p q) Q st:=by
 rw[ZmY];unfold mHiB
 obtain⟨e,he,hm⟩:=at? (p:=p) (i:=p.size-1) (by omega)
 have hd:p.toList=p.toList.take (p.size-1)++[e]:=by
  have:=ZgP hp he
  rwa [YAq (by simp)]at this
 have h1:MR D L (p.toList++q.toList) p q #[e] (p.size-1) q.size:=by
  unfold MR
  have e2:(q.toList.take q.size)=q.toList:=YAq (by simp)
  rw[e2]
  have:MS D (Fl L) (p.toList++q.toList) [] ([e]++(p.toList.take (p.size-1)).reverse) q.toList.reverse:=by
   have e3:[e]++(p.toList.take (p.size-1)).reverse=p.toList.reverse:=by
    conv=>rhs;rw[hd]
    simp
   rw[e3]
   exact⟨by simpa using (List.reverse_perm _).append (List.reverse_perm _),List.Pairwise.nil,by simp,by simp,ZjY.mpr hH.sp,ZjY.mpr hH.sq⟩
  refine this.movX fun u hu v hv=>h0 u ?_ v (YBS.mp hv)
  have hu:u=e:=by simpa using hu
  subst hu
  rw[hd,YCS (by simp)]
  simp
 refine YAL (wpS_lift (YBo ⟨rfl,?_⟩))
 refine YAL (ZaZ he ?_)
 by_cases c1:p.size-1=0
 ·rw[YAO (by simpa using c1)]
  exact YAV (hQ _ _ (ZgF h1 c1))
 rw[YAJ (by simpa using c1)]
 by_cases c2:q.size=1
 ·rw[YAO (by simpa using c2)]
  exact YAV (hQ _ _ (hH.fin_fb hC h1 c2))
 rw[YAJ (by simpa using c2)]
 refine YAL (YDK ?_)
 have hI:HiI D L p q (p.toList++q.toList) #[e] (p.size-1) q.size:=⟨h1,by omega,by omega,by omega,by omega⟩
 generalize p.toList++q.toList=T at hI hQ
 refine YAL (YBv (YBL (a:=0) (b:=p.size+q.size) (I:=fun x c st'=>∃g,st'=ZaA st g∧∃o i j mg,c=(none,i,j,o,mg)∧HiI D L p q T o i j∧x+(i+j)≤p.size+q.size)
  (Q:=fun c st'=>∃g,st'=ZaA st g∧∃z o i j mg,c=(some z,i,j,o,mg)∧Fin1 L T z) ?step ?fin ⟨gallopOf st,rfl,#[e],p.size-1,q.size,gallopOf st,rfl,hI,by omega⟩) ?post)
 case post=>
  rintro c st' ⟨g,rfl,z,o,i,j,mg,rfl,hz⟩
  exact YAV (hQ z g hz)
 case fin=>
  rintro c st' ⟨g,rfl,o,i,j,mg,rfl,hI,hx⟩
  have:=hI.li;have:=hI.lj
  omega
 case step=>
  rintro x c st' _ hx ⟨g,rfl,o,i,j,mg,rfl,hI,hxi⟩
  dsimp only
  refine YAL (YBv (YBL (I:=fun y c st'=>st'=ZaA st g∧∃o i j ca cb,c=(none,i,j,o,ca,cb)∧HiI D L p q T o i j∧y+x+(i+j)≤p.size+q.size)
   (Q:=fun c st'=>st'=ZaA st g∧∃r o i j ca cb,c=(r,i,j,o,ca,cb)∧((∃z,r=some z∧Fin1 L T z)∨(r=none∧HiI D L p q T o i j∧x+1+(i+j)≤p.size+q.size))) ?s1 ?f1 ⟨rfl,_,_,_,_,_,rfl,hI,by omega⟩) ?p1)
  case f1=>
   rintro c st' ⟨rfl,o,i,j,ca,cb,rfl,hI,hx⟩
   have:=hI.li;have:=hI.lj
   omega
  case s1=>
   rintro y c st' _ hy ⟨rfl,o,i,j,ca,cb,rfl,hI,hxi⟩
   obtain⟨h,hi,hj,hip,hjq⟩:=hI
   obtain⟨u,hu,hum⟩:=at? (p:=q) (i:=j-1) (by omega)
   obtain⟨v,hv,hvm⟩:=at? (p:=p) (i:=i-1) (by omega)
   have hDu:=hH.dq u hum
   have hDv:=hH.dp v hvm
   have uge:=Zel hC hH.dq hH.sq (by omega) hu hum
   have vge:=Zel hC hH.dp hH.sp hi hv hvm
   dsimp only
   refine YAL (ZaZ hu (YAL (ZaZ hv (YAL (hP _ _ _ _ hk hDu hDv ?_)))))
   dsimp only
   cases hL:L u v with
   | true=>
    rw[YAO rfl]
    refine YAL (ZaZ hv ?_)
    have h2:MR D L T p q (o.push v) (i-1) j:=by
     unfold MR at h ⊢
     rw[YBW]
     rw[ZiT hi hv]at h
     refine MS.movX h fun a ha b hb=>?_
     have ha:a=v:=by simpa using ha
     subst ha
     have hb:=YBS.mp hb
     exact hC.tr b u a (hH.dq b (YAY hb)) hDu hDv (uge b hb) (hC.asym _ _ hDu hDv hL)
    by_cases c3:i-1=0
    ·rw[YAO (by simpa using c3)]
     exact YAV ⟨rfl,_,_,_,_,_,_,rfl,.inl ⟨_,rfl,ZgF h2 c3⟩⟩
    ·rw[YAJ (by simpa using c3)]
     have hI:HiI D L p q T (o.push v) (i-1) j:=⟨h2,by omega,by omega,by omega,by omega⟩
     split
     ·exact YAV ⟨rfl,_,_,_,_,_,_,rfl,.inr ⟨rfl,hI,by omega⟩⟩
     ·exact YAV ⟨rfl,_,_,_,_,_,rfl,hI,by omega⟩
   | false=>
    rw[YAJ YAC]
    refine YAL (ZaZ hu ?_)
    have h2:MR D L T p q (o.push u) i (j-1):=by
     unfold MR at h ⊢
     rw[YBW]
     rw[ZiT (by omega) hu]at h
     refine MS.movY h fun a ha b hb=>?_
     have ha:a=u:=by simpa using ha
     subst ha
     have hb:=YBS.mp hb
     exact hC.tr b v a (hH.dp b (YAY hb)) hDv hDu (vge b hb) hL
    by_cases c3:j-1=1
    ·rw[YAO (by simpa using c3)]
     exact YAV ⟨rfl,_,_,_,_,_,_,rfl,.inl ⟨_,rfl,hH.fin_fb hC h2 c3⟩⟩
    ·rw[YAJ (by simpa using c3)]
     have hI:HiI D L p q T (o.push u) i (j-1):=⟨h2,by omega,by omega,by omega,by omega⟩
     split
     ·exact YAV ⟨rfl,_,_,_,_,_,_,rfl,.inr ⟨rfl,hI,by omega⟩⟩
     ·exact YAV ⟨rfl,_,_,_,_,_,rfl,hI,by omega⟩
  case p1=>
   rintro c st' ⟨rfl,r,o,i,j,ca,cb,rfl,⟨z,rfl,hz⟩|⟨rfl,hI,hw⟩⟩
   ·exact YAV ⟨g,rfl,z,o,i,j,mg,rfl,hz⟩
   ·dsimp only
    refine YAL (wpS_lift (YBo ⟨rfl,?_⟩))
    refine YAL (YBv (YBL (I:=fun y c st'=>(∃g,st'=ZaA st g)∧HiY D L p q T (p.size+q.size-y-(x+1)) c)
     (Q:=fun c st'=>(∃g,st'=ZaA st g)∧HiQ D L p q T (p.size+q.size-(x+1)) c) ?s2 ?f2 ⟨⟨g,rfl⟩,_,_,_,_,_,_,rfl,hI,by omega⟩) ?p2)
    case f2=>
     rintro c st' ⟨_,o,i,j,mg,ca,cb,rfl,hI,hx⟩
     have:=hI.li;have:=hI.lj
     omega
    case p2=>
     rintro c st' ⟨⟨g,rfl⟩,r,o,i,j,mg,ca,cb,rfl,⟨z,rfl,hz⟩|⟨rfl,hI,hw⟩⟩
     ·exact YAV ⟨g,rfl,z,o,i,j,mg,rfl,hz⟩
     ·exact YAL (YCG (YAV ⟨_,rfl,o,i,j,mg+1,rfl,hI,by have:=hI.li;omega⟩))
    case s2=>
     rintro y c st' _ hy ⟨⟨g,rfl⟩,o,i,j,mg,ca,cb,rfl,hI,hw⟩
     have key:∀mg,wpS M A E s (hiF p q o i j mg ca cb) (fun r st'=>match r with | .done c'=>(∃g,st'=ZaA st g)∧HiQ D L p q T (p.size+q.size-(x+1)) c' | .yield c'=>(∃g,st'=ZaA st g)∧HiY D L p q T (p.size+q.size-(y+1)-(x+1)) c') (ZaA st g):=by
      intro mg
      have:=hI.li
      refine YBv (Zns (w:=p.size+q.size-(y+1)-(x+1)) hH hC hP hk (by omega) hI) ?_
      rintro r st' ⟨hg,hr⟩
      cases r with
      | done c=>
       obtain⟨r,o,i,j,mg,ca,cb,rfl,h | ⟨rfl,hI,hw⟩⟩:=hr
       ·exact⟨hg,r,o,i,j,mg,ca,cb,rfl,.inl h⟩
       ·exact⟨hg,none,o,i,j,mg,ca,cb,rfl,.inr ⟨rfl,hI,by omega⟩⟩
      | yield c=>exact⟨hg,hr⟩
     refine YBv (Q:=fun r st'=>match r with | .done c'=>(∃g,st'=ZaA st g)∧HiQ D L p q T (p.size+q.size-(x+1)) c' | .yield c'=>(∃g,st'=ZaA st g)∧HiY D L p q T (p.size+q.size-(y+1)-(x+1)) c') ?_ (fun r st' hr=>by cases r<;>exact hr)
     by_cases hmg:mg>1
     ·rw[YAO (show (none,i,j,o,mg,ca,cb).snd.snd.snd.snd.fst>1 from hmg)]
      refine Eq.mp ?_ (key (mg-1))
      refine congrArg (fun m=>wpS M A E s m _ _) ?_
      unfold hiF hiD hiE fbh dnh
      dsimp only
     ·rw[YAJ (show ¬(none,i,j,o,mg,ca,cb).snd.snd.snd.snd.fst>1 from hmg)]
      exact key mg
end
noncomputable def mAtB (i:Nat):StateT SortSt Sem Bool:=do
 let v ←get
 let (some (sa,na,pw),some (sb,nb,_)):=((pendingOf v)[i]?,(pendingOf v)[i+1]?) | unsupported "internal:list.sort.pending"
 set (setPending v (((pendingOf v).setIfInBounds i (sa,na+nb,pw)).eraseIdxIfInBounds (i+1)))
 let some k ←gal false (←elem' (arrOf v) sb) (arrOf v) sa na 0 | return false
 let (sa,na):=(sa+k,na-k)
 if na == 0 then return true
 let some nb ←gal true (←elem' (arrOf v) (sa+na-1)) (arrOf v) sb nb (nb-1) | return false
 if nb == 0 then return true
 let x:=(arrOf v).extract sa sb
 let y:=(arrOf v).extract sb (sb+nb)
 let mm ←if na≤nb then mLo x y else mHi x y
 modify fun u=>setArr u (mm.toList.zipIdx.foldl (fun a (p,j)=>a.setIfInBounds (sa+j) p) (arrOf u))
 return (failedOf (←get)).isNone
theorem Zm0 (i:Nat):mergeAt' i=mAtB i:=rfl
theorem Zkr {M:Model}{A:Around}{E:Value→Shared→Prop}{s:Shared}{σ:Type}{v:σ}{Q:PUnit→σ→Prop}{st:σ}(h:Q ⟨⟩ v):wpS M A E s (set v:StateT σ Sem PUnit) Q st:=by
 unfold wpS;rw[StateT.run_set];exact YAD ⟨rfl,h⟩
noncomputable def putL (a:Array Keyed) (b:Nat) (l:List Keyed):Array Keyed:=l.zipIdx.foldl (fun a (p,j)=>a.setIfInBounds (b+j) p) a
theorem ZhO:∀(l:List Keyed) (n b:Nat) (a:Array Keyed) (x y z:List Keyed),a.toList=x++y++z→x.length=b+n→y.length=l.length →
  ((l.zipIdx n).foldl (fun a (p,j)=>a.setIfInBounds (b+j) p) a).toList=x++l++z
 | [],n,b,a,x,y,z,h,hx,hy=>by
  have:y=[]:=YCx.mp hy
  subst this;simpa using h
 | e::l,n,b,a,x,y,z,h,hx,hy=>by
  cases y with
  | nil=>simp at hy
  | cons f y=>
   rw[List.zipIdx_cons,YCd]
   have:=ZhO l (n+1) b (a.setIfInBounds (b+n) e) (x++[e]) y z (by
    rw[YDT,h,←hx,YAh,YCr,List.set_append_right _ _ (YAQ _),Nat.sub_self]
    simp) (by simp;omega) (by simpa using hy)
   rw[this];simp
theorem ZhN {l:List Keyed}{b:Nat}{a:Array Keyed}{x y z:List Keyed}(h:a.toList=x++y++z)(hx:x.length=b)(hy:y.length=l.length):(putL a b l).toList=x++l++z:=
 ZhO l 0 b a x y z h (by omega) hy
section
variable {M:Model}{A:Around}{E:Value→Shared→Prop}{s:Shared}{D:Keyed→Prop}{L:Keyed→Keyed→Bool}{kd:SortKind}{st:SortSt}
theorem slice {a:Array Keyed}{x y z:List Keyed}{b n:Nat}(h:a.toList=x++y++z)(hb:b=x.length)(hn:n=y.length):(a.toList.drop b).take n=y:=by
 rw[h,hb,hn,YAh,List.drop_left,List.take_left]
theorem ZmZ {i pw pw2:Nat}{W X Y Z:List Keyed}{Q:Bool→SortSt→Prop}(hC:Cmp D L)(hP:PureC M A E s D L kd)(hk:kindOf st=kd)(hf:failedOf st=none)
  (ha:(arrOf st).toList=W++X++Y++Z) (hd:∀u∈(arrOf st).toList,D u) (hX:X≠[]) (hY:Y≠[]) (sX:X.Pairwise (Le L)) (sY:Y.Pairwise (Le L))
  (h1:(pendingOf st)[i]?=some (W.length,X.length,pw)) (h2:(pendingOf st)[i+1]?=some (W.length+X.length,Y.length,pw2))
  (hQ:∀(V:List Keyed) (a:Array Keyed) g,a.toList=W++V++Z→V.Perm (X++Y)→V.Pairwise (Le L)→Q true (SortSt.mk' kd a (((pendingOf st).setIfInBounds i (W.length,X.length+Y.length,pw)).eraseIdxIfInBounds (i+1)) g none)):
  wpS M A E s (mergeAt' i) Q st:=by
 rw[Zm0];unfold mAtB
 refine YAL (YDK ?_)
 rw[h1,h2]
 dsimp only
 refine YAL (Zkr ?_)
 have hsz:(arrOf st).size=W.length+X.length+Y.length+Z.length:=by rw[←YAN,ha];simp;omega
 have hXp:0<X.length:=YBj.mpr hX
 have hYp:0<Y.length:=YBj.mpr hY
 have dX:∀u∈X,D u:=fun u hu=>hd u (by rw[ha];simp[hu])
 have dY:∀u∈Y,D u:=fun u hu=>hd u (by rw[ha];simp[hu])
 obtain⟨y0,Y',rfl⟩:∃y l,Y=y::l:=by cases Y with | nil=>exact absurd rfl hY | cons y l=>exact⟨y,l,rfl⟩
 have hy0:(arrOf st)[W.length+X.length]?=some y0:=by
  rw[←YAl,ha,YAh,YAg (by simp)]
  simp
 have dy0:=dY y0 (by simp)
 refine YAL (ZaZ hy0 ?_)
 have sl1:=slice (a:=arrOf st) (x:=W) (y:=X) (z:=y0::Y'++Z) (b:=W.length) (n:=X.length) (by rw[ha];simp) rfl rfl
 have sl2:=slice (a:=arrOf st) (x:=W++X) (y:=y0::Y') (z:=Z) (b:=W.length+X.length) (n:=(y0::Y').length) (by rw[ha]) (by simp) rfl
 refine YAL (Zd0 hC hP (by exact hk) (by omega) hXp dy0 hd (by rw[sl1];exact sX) ?_)
 rw[sl1]
 intro k hkn ha1 hb1
 replace ha1:∀u∈X.take k,Le L u y0:=ha1
 replace hb1:∀u∈X.drop k,L y0 u=true:=hb1
 dsimp only
 have y0le:∀v∈y0::Y',Le L y0 v:=by
  intro v hv
  rcases YAK.mp hv with rfl | hv
  ·exact le_refl' hC dy0
  ·exact(YBK.mp sY).1 v hv
 have X1Y:∀u∈X.take k,∀v∈y0::Y',Le L u v:=fun u hu v hv=>hC.tr u y0 v (dX u (YAY hu)) dy0 (dY v hv) (ha1 u hu) (y0le v hv)
 by_cases c1:X.length-k=0
 ·rw[YAO (by simpa using c1)]
  refine YAV ?_
  have e:X.take k=X:=YAq (by omega)
  rw[e]at X1Y
  have:=hQ (X++(y0::Y')) (arrOf st) (gallopOf st) (by rw[ha];simp) (List.Perm.refl _) (YBH.mpr ⟨sX,sY,X1Y⟩)
  rw[←hk,←hf]at this
  exact this
 rw[YAJ (by simpa using c1)]
 obtain⟨xl,hxl⟩:∃xl,X[X.length-1]?=some xl:=⟨X[X.length-1],YAM (by omega)⟩
 have hxm:xl∈X:=YAr hxl
 have hxl2:xl∈X.drop k:=by
  refine YAr (i:=X.length-1-k) ?_
  rw[YCY,←hxl];congr 1;omega
 have hxa:(arrOf st)[W.length+k+(X.length-k)-1]?=some xl:=by
  rw[←YAl,ha,YAh,YAh,YAg (by omega),YAi (by omega),←hxl]
  congr 1;omega
 refine YAL (ZaZ hxa ?_)
 refine YAL (Zd0 hC hP (by exact hk) (by simp at hsz ⊢;omega) (by simp) (dX xl hxm) hd (by rw[sl2];exact sY) ?_)
 rw[sl2]
 intro n hnn ha2 hb2
 replace ha2:∀u∈(y0::Y').take n,L u xl=true:=ha2
 replace hb2:∀u∈(y0::Y').drop n,Le L xl u:=hb2
 dsimp only
 have hn0:n≠0:=by
  rintro rfl
  have h5:=hb1 xl hxl2
  rw[show L y0 xl=false from hb2 y0 (by simp)]at h5
  cases h5
 rw[YAJ (by simpa using hn0)]
 obtain⟨x,hx⟩:∃x,x=(arrOf st).extract (W.length+k) (W.length+X.length):=⟨_,rfl⟩
 obtain⟨y,hy⟩:∃y,y=(arrOf st).extract (W.length+X.length) (W.length+X.length+n):=⟨_,rfl⟩
 have xL:x.toList=X.drop k:=by
  rw[hx,YAw,List.extract]
  exact slice (x:=W++X.take k) (z:=y0::Y'++Z) (by rw[ha];simp only[YAh];rw[←YAh (X.take k),YAk]) (by rw[YAF,YAb,YBp hkn]) (by rw[YAm];omega)
 have yL:y.toList=(y0::Y').take n:=by
  rw[hy,YAw,List.extract]
  exact slice (x:=W++X) (z:=(y0::Y').drop n++Z) (by rw[ha];simp only[YAh];rw[←YAh (List.take n _),YAk]) (by rw[YAF]) (by rw[YAb,YBp hnn];omega)
 have xS:x.size=X.length-k:=by rw[←YAN,xL,YAm]
 have yS:y.size=n:=by rw[←YAN,yL,YAb,YBp hnn]
 have y1:y.toList.take 1=[y0]:=by
  rw[yL,YCT,YBp (by omega)];simp
 have xd:∀v∈x.toList.drop (x.size-1),v=xl:=by
  intro v hv
  rw[xL,xS,YCn]at hv
  have:X.drop (k+(X.length-k-1))=[xl]:=by
   obtain⟨h5,h6⟩:=YAc.mp hxl
   rw[show k+(X.length-k-1)=X.length-1 by omega,YCF h5,h6,YCV (by omega)]
  rw[this]at hv
  simpa using hv
 have dx:∀u∈x.toList,D u:=fun u hu=>dX u (YAZ (xL▸hu))
 have dy:∀u∈y.toList,D u:=fun u hu=>dY u (YAY (yL▸hu))
 have sx:x.toList.Pairwise (Le L):=by rw[xL];exact sX.sublist (List.drop_sublist _ _)
 have sy:y.toList.Pairwise (Le L):=by rw[yL];exact sY.sublist (YCg _ _)
 have y0x:∀v∈x.toList,L y0 v=true:=fun v hv=>hb1 v (xL▸hv)
 have yxl:∀u∈y.toList,L u xl=true:=fun u hu=>ha2 u (yL▸hu)
 have main:∀(z:Array Keyed) g,Fin1 L (x.toList++y.toList) z→wpS M A E s (do
   modify fun u=>setArr u (putL (arrOf u) (W.length+k) z.toList)
   return (failedOf (←get)).isNone) Q (ZaA (setPending st (((pendingOf st).setIfInBounds i (W.length,X.length+(y0::Y').length,pw)).eraseIdxIfInBounds (i+1))) g):=by
  rintro z g ⟨hz1,hz2⟩
  refine YAL (YCG (YAL (YDK (YAV ?_))))
  show Q (failedOf st).isNone _
  rw[hf]
  have hzl:(X.drop k++(y0::Y').take n).length=z.toList.length:=by rw[hz1.length_eq,xL,yL]
  have hp:(putL (arrOf st) (W.length+k) z.toList).toList=W++(X.take k++z.toList++(y0::Y').drop n)++Z:=by
   rw[ZhN (x:=W++X.take k) (y:=X.drop k++(y0::Y').take n) (z:=(y0::Y').drop n++Z) (by
    rw[ha];simp only[YAh]
    rw[←YAh (List.take n _),YAk,←YAh (X.take k),YAk]) (by rw[YAF,YAb,YBp hkn]) hzl]
   simp only[YAh]
  have zm:∀v∈z.toList,v∈X.drop k∨v∈(y0::Y').take n:=fun v hv=>by
   have:=hz1.mem_iff.mp hv
   rw[xL,yL]at this
   exact YAe.mp this
  have dxl:=dX xl hxm
  have:=hQ (X.take k++z.toList++(y0::Y').drop n) _ g hp ?_ ?_
  ·rw[←hk,←hf]at this
   exact this
  ·have e1:(X.take k++z.toList++(y0::Y').drop n).Perm (X.take k++(X.drop k++(y0::Y').take n)++(y0::Y').drop n):=by
    refine List.Perm.append_right _ (List.Perm.append_left _ ?_)
    rw[xL,yL]at hz1;exact hz1
   refine e1.trans (List.Perm.of_eq ?_)
   rw[←YAh,YAk,YAh,YAk]
  ·have zY2:∀u∈z.toList,∀v∈(y0::Y').drop n,Le L u v:=by
    intro u hu v hv
    rcases zm u hu with h | h
    ·have hux:Le L u xl:=by
      have e5:X=X.take (X.length-1)++[xl]:=by
       obtain⟨h5,h6⟩:=YAc.mp hxl
       conv=>lhs;rw[←YAk (X.length-1) X,YCF h5,h6,YCV (by omega)]
      have hu':u∈X:=YAZ h
      rw[e5]at sX hu'
      rcases YAe.mp hu' with hu' | hu'
      ·exact(YBH.mp sX).2.2 u hu' xl (by simp)
      ·have:u=xl:=by simpa using hu'
       subst this;exact le_refl' hC dxl
     exact hC.tr u xl v (dX u (YAZ h)) dxl (dY v (YAZ hv)) hux (hb2 v hv)
    ·have e5:=sY
     rw[←YAk n (y0::Y')]at e5
     exact(YBH.mp e5).2.2 u h v hv
   rw[YBH,YBH]
   refine⟨⟨sX.sublist (YCg _ _),hz2,fun u hu v hv=>?_⟩,sY.sublist (List.drop_sublist _ _),fun u hu v hv=>?_⟩
   ·rcases zm v hv with h | h
    ·have e5:=sX
     rw[←YAk k X]at e5
     exact(YBH.mp e5).2.2 u hu v h
    ·exact X1Y u hu v (YAY h)
   ·rcases YAe.mp hu with hu | hu
    ·exact X1Y u hu v (YAZ hv)
    ·exact zY2 u hu v hv
 have xp:0<x.size:=by omega
 have yp:0<y.size:=by omega
 rw[←hx,←hy]
 by_cases c3:X.length-k≤n
 ·rw[YAO c3]
  refine YAL (ZmV (st:=setPending st _) ⟨dx,dy,sx,sy,fun u hu v hv=>by rw[xd v hv];exact yxl u hu⟩ hC hP (by exact hk) xp yp (fun u hu v hv=>?_) fun z g hz=>main z g hz)
  have hu:u=y0:=by rw[y1]at hu;simpa using hu
  subst hu
  exact hC.asym u v dy0 (dx v hv) (y0x v hv)
 ·rw[YAJ c3]
  refine YAL (ZmX (st:=setPending st _) ⟨dx,dy,sx,sy,fun u hu v hv=>by rw[y1]at hu;rw[show u=y0 by simpa using hu];exact y0x v hv⟩ hC hP (by exact hk) xp yp (fun u hu v hv=>?_) fun z g hz=>main z g hz)
  rw[xd u hu]
  exact hC.asym v xl (dy v hv) (dX xl hxm) (yxl v hv)
end
abbrev CmpT (L:Keyed→Keyed→Bool):Prop:=Cmp (fun _=>True) L
theorem CmpT.to {L:Keyed→Keyed→Bool}{D:Keyed→Prop}(h:CmpT L):Cmp D L:=⟨fun x y _ _=>h.asym x y trivial trivial,fun x y z _ _ _=>h.tr x y z trivial trivial trivial⟩
theorem CmpT.rf {L:Keyed→Keyed→Bool}(h:CmpT L)(x:Keyed):Le L x x:=le_refl' h trivial
theorem CmpT.le {L:Keyed→Keyed→Bool}(h:CmpT L){x y:Keyed}(e:L x y=true):Le L x y:=h.asym x y trivial trivial e
theorem CmpT.t {L:Keyed→Keyed→Bool}(h:CmpT L){x y z:Keyed}(e:Le L x y)(f:Le L y z):Le L x z:=h.tr x y z trivial trivial trivial e f
theorem CmpT.lt_le {L:Keyed→Keyed→Bool}(h:CmpT L){x y z:Keyed}(e:L x y=true)(f:Le L y z):L x z=true:=by
 cases hx:L x z with
 | true=>rfl
 | false=>rw[h.tr y z x trivial trivial trivial f hx]at e;cases e
noncomputable def at0 (a:Array Keyed) (i:Nat):Keyed:=(a[i]?).getD (.none,.none)
theorem ZdJ {a b:Array Keyed}{i j:Nat}(h:a[i]?=b[j]?):at0 a i=at0 b j:=by unfold at0;rw[h]
noncomputable def SegU (L:Keyed→Keyed→Bool) (a:Array Keyed) (l h:Nat):Prop:=∀i j,l≤i→i≤j→j<h→Le L (at0 a i) (at0 a j)
noncomputable def SegD (L:Keyed→Keyed→Bool) (a:Array Keyed) (l h:Nat):Prop:=∀i j,l≤i→i≤j→j<h→Le L (at0 a j) (at0 a i)
structure Kept (lo:Nat)(a b:Array Keyed):Prop where
 perm:b.Perm a
 pre:∀k,k<lo→b[k]?=a[k]?
theorem Kept.rf (lo:Nat)(a:Array Keyed):Kept lo a a:=⟨Array.Perm.refl _,fun _ _=>rfl⟩
theorem Kept.tr {lo:Nat}{a b c:Array Keyed}(h:Kept lo a b)(k:Kept lo b c):Kept lo a c:=⟨k.perm.trans h.perm,fun i hi=>(k.pre i hi).trans (h.pre i hi)⟩
theorem Kept.sz {lo:Nat}{a b:Array Keyed}(h:Kept lo a b):b.size=a.size:=h.perm.size_eq
theorem Kept.d {lo:Nat}{a b:Array Keyed}{D:Keyed→Prop}(h:Kept lo a b)(hd:∀u∈a.toList,D u):∀u∈b.toList,D u:=fun u hu=>hd u ((YCj.mp h.perm).mem_iff.mp hu)
theorem ZiL {xs:Array Keyed}{src d:Nat}(hs:src<xs.size)(hd:d≤src)(k:Nat):
  at0 (bubble xs src d) k=if k=src-d then at0 xs src else if src-d<k∧k≤src then at0 xs (k-1) else at0 xs k:=by
 have e:=getElem?_bubble hs d hd k
 repeat' split
 all_goals (refine ZdJ (e.trans ?_);first | rw[YAO (by assumption)] | (rw[YAJ (by assumption)];first | rw[YAO (by assumption)] | rw[YAJ (by assumption)]))
theorem Zf4 {xs:Array Keyed}{i j:Nat}(hj:j≤xs.size)(k:Nat):
  at0 (mirror xs i j ((j-i)/2)) k=if i≤k∧k<j then at0 xs (i+j-1-k) else at0 xs k:=by
 have e:=getElem?_mirror_all (i:=i) hj k
 split
 ·exact ZdJ (e.trans (YAO (by assumption)))
 ·exact ZdJ (e.trans (YAJ (by assumption)))
theorem Kept.bub {lo src d:Nat}{a:Array Keyed}(hs:src<a.size)(hd:lo+d≤src):Kept lo a (bubble a src d):=
 ⟨bubble_perm _ _ _,fun k hk=>by rw[getElem?_bubble hs d (by omega),YAJ (by omega),YAJ (by omega)]⟩
theorem Kept.mir {lo i j:Nat}{a:Array Keyed}(hj:j≤a.size)(hl:lo≤i):Kept lo a (mirror a i j ((j-i)/2)):=
 ⟨mirror_perm _ _ _ _,fun k hk=>by rw[getElem?_mirror_all hj,YAJ (by omega)]⟩
section
variable {M:Model}{A:Around}{E:Value→Shared→Prop}{s:Shared}{D:Keyed→Prop}{L:Keyed→Keyed→Bool}{kd:SortKind}{st:SortSt}
theorem Ze6 {a:Array Keyed}{i j:Nat}{Q:Option Bool→SortSt→Prop}(hP:PureC M A E s D L kd)(hk:kindOf st=kd)(hd:∀u∈a.toList,D u)(hi:i<a.size)(hj:j<a.size)
  (q:Q (some (L (at0 a i) (at0 a j))) (setArr st a)):wpS M A E s (ltAt' i j) Q (setArr st a):=by
 obtain⟨x,hx,hxm⟩:=at? hi
 obtain⟨y,hy,hym⟩:=at? hj
 have ex:at0 a i=x:=by unfold at0;rw[hx];rfl
 have ey:at0 a j=y:=by unfold at0;rw[hy];rfl
 rw[ex,ey]at q
 rw[ltAt'_eq]
 refine YAL (YDK ?_)
 exact YAL (ZaZ hx (YAL (ZaZ hy (hP _ _ _ _ hk (hd x hxm) (hd y hym) q))))
theorem ZlD {a:Array Keyed}{lo n ok:Nat}{Q:Bool→SortSt→Prop}(hC:CmpT L)(hP:PureC M A E s D L kd)(hk:kindOf st=kd)(hd:∀u∈a.toList,D u)(hn:lo+n≤a.size)(hok:ok≤n)
  (hs:SegU L a lo (lo+ok)) (h:∀b,Kept lo a b→SegU L b lo (lo+n)→Q true (setArr st b)):wpS M A E s (binarySort' lo n ok) Q (setArr st a):=by
 rw[binarySort'_eq]
 refine YAL (YBv (YBL (I:=fun k c st'=>c=(none,())∧∃b,st'=setArr st b∧Kept lo a b∧SegU L b lo (lo+min k n))
  (Q:=fun c st'=>c=(none,())∧∃b,st'=setArr st b∧Kept lo a b∧SegU L b lo (lo+n)) ?step ?fin ?init) ?post)
 case post=>
  rintro c st' ⟨rfl,b,rfl,hb,hs'⟩
  exact YAV (h b hb hs')
 case init=>
  refine⟨rfl,a,rfl,Kept.rf _ _,fun i j hl hij hj=>?_⟩
  by_cases h1:ok=0
  ·have:i=j:=by omega
   subst this;exact hC.rf _
  ·exact hs i j hl hij (by omega)
 case fin=>
  rintro c st' ⟨hc,b,hst,hb,hs'⟩
  refine⟨hc,b,hst,hb,?_⟩
  rwa [show min (max (max ok 1) n) n=n by omega]at hs'
 case step=>
  rintro k c st' hak hkn ⟨rfl,b,rfl,hb,hs'⟩
  rw[show min k n=k by omega]at hs'
  have hsz:=hb.sz
  have hdb:=hb.d hd
  refine YAL (YBv (YBL (I:=fun x c st''=>st''=setArr st b∧∃l r,c=(none,l,r)∧l≤r∧r≤k∧r-l≤k-x ∧
    (∀i,lo≤i→i<lo+l→Le L (at0 b i) (at0 b (lo+k)))∧(∀i,lo+r≤i→i<lo+k→L (at0 b (lo+k)) (at0 b i)=true))
   (Q:=fun c st''=>st''=setArr st b∧∃l r,c=(none,l,r)∧l≤k ∧
    (∀i,lo≤i→i<lo+l→Le L (at0 b i) (at0 b (lo+k)))∧(∀i,lo+l≤i→i<lo+k→L (at0 b (lo+k)) (at0 b i)=true)) ?istep ?ifin ?iinit) ?ipost)
  case iinit=>exact⟨rfl,0,k,rfl,by omega,by omega,by omega,fun i h1 hi=>by omega,fun i h1 h2=>by omega⟩
  case ifin=>
   rintro c st'' ⟨rfl,l,r,rfl,hlr,hrk,hm,hlo,hhi⟩
   have:l=r:=by omega
   subst this
   exact⟨rfl,l,l,rfl,hrk,hlo,hhi⟩
  case istep=>
   rintro x c st'' _ hxk ⟨rfl,l,r,rfl,hlr,hrk,hm,hlo,hhi⟩
   dsimp only
   by_cases hge:l≥r
   ·rw[YAO hge]
    have:l=r:=by omega
    subst this
    exact YAV ⟨rfl,l,l,rfl,hrk,hlo,hhi⟩
   ·rw[YAJ hge]
    refine YAL (Ze6 hP hk hdb (by omega) (by omega) ?_)
    cases hless:L (at0 b (lo+k)) (at0 b (lo+(l+r)/2)) with
    | true=>exact YAV ⟨rfl,l,(l+r)/2,rfl,by omega,by omega,by omega,hlo,fun i h1 h2=>hC.lt_le hless (hs' _ _ (by omega) h1 h2)⟩
    | false=>exact YAV ⟨rfl,(l+r)/2+1,r,rfl,by omega,by omega,by omega,fun i h0 h1=>hC.t (hs' i (lo+(l+r)/2) h0 (by omega) (by omega)) hless,hhi⟩
  case ipost=>
   rintro c st'' ⟨rfl,l,r,rfl,hlk,hlo,hhi⟩
   show wpS _ _ _ _ (do moveDown' (lo+k) (lo+l);pure (ForInStep.yield (none,()))) _ _
   rw[moveDown'_eq]
   have hks:lo+k<b.size:=by omega
   refine YAL (YCG (YAV ⟨rfl,bubble b (lo+k) (lo+k-(lo+l)),rfl,hb.tr (Kept.bub hks (by omega)),?_⟩))
   rw[show min (k+1) n=k+1 by omega]
   intro i j hl hij hj
   rw[ZiL hks (by omega),ZiL hks (by omega),show lo+k-(lo+k-(lo+l))=lo+l by omega]
   repeat' split
   all_goals first
    | (exfalso;omega)
    | exact hC.rf _
    | exact hlo _ (by omega) (by omega)
    | exact hC.le (hhi _ (by omega) (by omega))
    | exact hs' _ _ (by omega) (by omega) (by omega)
end
noncomputable def ascO (lo a nr:Nat):StateT SortSt Sem AscSt:=
 forIn [a:nr] ((none,a):AscSt) fun _ c=>do
  let x ←ltAt' (lo+c.snd) (lo+c.snd-1)
  match x with
  | some sm=>if sm=true then pure (ForInStep.done (none,c.snd)) else pure (ForInStep.yield (none,c.snd+1))
  | _=>pure (ForInStep.done (some none,c.snd))
noncomputable def tailO (lo n nr:Nat):StateT SortSt Sem (Option Nat):=do
 reverseSlice' lo (lo+n)
 let c ←ascO lo n nr
 match c.fst with
 | some r=>pure r
 | none=>pure (some c.snd)
noncomputable def descO (lo n nr:Nat):StateT SortSt Sem DescSt:=
 forIn [n:nr] ((none,n,0):DescSt) fun _ c=>do
  let x ←ltAt' (lo+c.snd.fst) (lo+c.snd.fst-1)
  match x with
  | some sm=>
   if sm=true then
    if c.snd.snd>0 then do
     reverseSlice' (lo+c.snd.fst-(c.snd.snd+1)) (lo+c.snd.fst)
     pure (ForInStep.yield (none,c.snd.fst+1,0))
    else pure (ForInStep.yield (none,c.snd.fst+1,0))
   else do
    let y ←ltAt' (lo+c.snd.fst-1) (lo+c.snd.fst)
    match y with
    | some lg=>
     if lg=true then pure (ForInStep.done (none,c.snd.fst,c.snd.snd))
     else pure (ForInStep.yield (none,c.snd.fst+1,c.snd.snd+1))
    | _=>pure (ForInStep.done (some none,c.snd.fst,c.snd.snd))
  | _=>pure (ForInStep.done (some none,c.snd.fst,c.snd.snd))
section
variable {M:Model}{A:Around}{E:Value→Shared→Prop}{s:Shared}{D:Keyed→Prop}{L:Keyed→Keyed→Bool}{kd:SortKind}{st:SortSt}
noncomputable def Eqv (L:Keyed→Keyed→Bool) (x y:Keyed):Prop:=Le L x y∧Le L y x
theorem Zdk {a:Array Keyed}{i j:Nat}{Q:Unit→SortSt→Prop}(q:Q () (setArr st (mirror a i j ((j-i)/2)))):wpS M A E s (reverseSlice' i j) Q (setArr st a):=by
 rw[reverseSlice'_eq];exact YCG q
theorem ZiM {a:Array Keyed}{lo n0 nr:Nat}{Q:AscSt→SortSt→Prop}(hC:CmpT L)(hP:PureC M A E s D L kd)(hk:kindOf st=kd)(hd:∀u∈a.toList,D u)(hn:lo+nr≤a.size)(h1:1≤n0)(hnn:n0≤nr)
  (hs:SegU L a lo (lo+n0)) (h:∀n,n0≤n→n≤nr→SegU L a lo (lo+n)→(n=nr∨L (at0 a (lo+n)) (at0 a (lo+n-1))=true)→Q (none,n) (setArr st a)):wpS M A E s (ascO lo n0 nr) Q (setArr st a):=by
 unfold ascO
 refine YBL (I:=fun x c st'=>st'=setArr st a∧c=(none,x)∧SegU L a lo (lo+x)) ?step ?fin ⟨rfl,rfl,hs⟩
 case fin=>
  rintro c st' ⟨rfl,rfl,hs'⟩
  rw[show max n0 nr=nr by omega]at hs' ⊢
  exact h nr hnn (YAQ _) hs' (.inl rfl)
 case step=>
  rintro x c st' hax hxn ⟨rfl,rfl,hs'⟩
  dsimp only
  refine YAL (Ze6 hP hk hd (by omega) (by omega) ?_)
  cases hl:L (at0 a (lo+x)) (at0 a (lo+x-1)) with
  | true=>exact YAV (h x hax (by omega) hs' (.inr hl))
  | false=>
   refine YAV ⟨rfl,rfl,fun i j hli hij hj=>?_⟩
   by_cases hjx:j<lo+x
   ·exact hs' i j hli hij hjx
   ·have hj':j=lo+x:=by omega
    subst hj'
    by_cases hi':i=lo+x
    ·subst hi';exact hC.rf _
    ·exact hC.t (hs' i (lo+x-1) hli (by omega) (by omega)) hl
theorem Zc1 {a:Array Keyed}{lo n nr:Nat}{Q:Option Nat→SortSt→Prop}(hC:CmpT L)(hP:PureC M A E s D L kd)(hk:kindOf st=kd)(hd:∀u∈a.toList,D u)(hn:lo+nr≤a.size)(h1:1≤n)(hnn:n≤nr)
  (hs:SegD L a lo (lo+n)) (h:∀b m,Kept lo a b→1≤m→m≤nr→SegU L b lo (lo+m)→Q (some m) (setArr st b)):wpS M A E s (tailO lo n nr) Q (setArr st a):=by
 unfold tailO
 refine YAL (Zdk ?_)
 have hK:Kept lo a (mirror a lo (lo+n) ((lo+n-lo)/2)):=Kept.mir (by omega) (YAQ _)
 refine YAL (ZiM hC hP hk (hK.d hd) (by rw[hK.sz];exact hn) h1 hnn ?_ fun m hm1 hm2 hsm _=>YAV (h _ m hK (by omega) hm2 hsm))
 intro i j hli hij hj
 rw[Zf4 (by omega),Zf4 (by omega),YAO (by omega),YAO (by omega)]
 exact hs _ _ (by omega) (by omega) (by omega)
theorem Zeh {a:Array Keyed}{i j:Nat}(hC:CmpT L)(hj:j≤a.size)(he:∀k,i≤k→k<j→Eqv L (at0 a k) (at0 a (j-1)))(k:Nat):Eqv L (at0 (mirror a i j ((j-i)/2)) k) (at0 a k):=by
 rw[Zf4 hj]
 split
 ·have e1:=he (i+j-1-k) (by omega) (by omega)
  have e2:=he k (by omega) (by omega)
  exact⟨hC.t e1.1 e2.2,hC.t e2.1 e1.2⟩
 ·exact⟨hC.rf _,hC.rf _⟩
theorem SegD.eqv {a b:Array Keyed}{l h:Nat}(hC:CmpT L)(hs:SegD L a l h)(he:∀k,Eqv L (at0 b k) (at0 a k)):SegD L b l h:=
 fun i j h1 h2 h3=>hC.t (he j).1 (hC.t (hs i j h1 h2 h3) (he i).2)
theorem SegD.more {a:Array Keyed}{l x:Nat}(hC:CmpT L)(hs:SegD L a l x)(hle:l<x→Le L (at0 a x) (at0 a (x-1))):SegD L a l (x+1):=by
 intro i j hli hij hj
 by_cases hjx:j<x
 ·exact hs i j hli hij hjx
 ·have hj':j=x:=by omega
  subst hj'
  by_cases hi':i=j
  ·subst hi';exact hC.rf _
  ·exact hC.t (hle (by omega)) (hs i (j-1) hli (by omega) (by omega))
theorem ZgH {a:Array Keyed}{lo n nr:Nat}{Q:DescSt→SortSt→Prop}(hC:CmpT L)(hP:PureC M A E s D L kd)(hk:kindOf st=kd)(hd:∀u∈a.toList,D u)(hn:lo+nr≤a.size)(h1:1≤n)(hnn:n≤nr)
  (hs:SegD L a lo (lo+n))
  (h:∀b m nq,Kept lo a b→n≤m→m≤nr→SegD L b lo (lo+m)→nq+1≤m→(∀i,lo+m-(nq+1)≤i→i<lo+m→Eqv L (at0 b i) (at0 b (lo+m-1)))→Q (none,m,nq) (setArr st b)):
  wpS M A E s (descO lo n nr) Q (setArr st a):=by
 unfold descO
 refine YBL (I:=fun x c st'=>∃b nq,st'=setArr st b∧c=(none,x,nq)∧Kept lo a b∧SegD L b lo (lo+x)∧nq+1≤x ∧
   (∀i,lo+x-(nq+1)≤i→i<lo+x→Eqv L (at0 b i) (at0 b (lo+x-1)))) ?step ?fin ⟨a,0,rfl,rfl,Kept.rf _ _,hs,by omega,fun i h1 h2=>by rw[show i=lo+n-1 by omega];exact⟨hC.rf _,hC.rf _⟩⟩
 case fin=>
  rintro c st' ⟨b,nq,rfl,rfl,hK,hs',hq,he⟩
  rw[show max n nr=nr by omega]at hs' hq he ⊢
  exact h b nr nq hK hnn (YAQ _) hs' hq he
 case step=>
  rintro x c st' hax hxn ⟨b,nq,rfl,rfl,hK,hs',hq,he⟩
  have hbs:=hK.sz
  have hdb:=hK.d hd
  dsimp only
  refine YAL (Ze6 hP hk hdb (by omega) (by omega) ?_)
  cases hl:L (at0 b (lo+x)) (at0 b (lo+x-1)) with
  | true=>
   have hmore:SegD L b lo (lo+x+1):=hs'.more hC fun _=>hC.le hl
   dsimp only
   by_cases hq0:nq>0
   ·rw[YAO rfl,YAO hq0]
    refine YAL (Zdk (YAV ⟨_,0,rfl,rfl,hK.tr (Kept.mir (by omega) (by omega)),hmore.eqv hC (Zeh hC (by omega) he),by omega,fun i h1 h2=>?_⟩))
    rw[show i=lo+(x+1)-1 by omega];exact⟨hC.rf _,hC.rf _⟩
   ·rw[YAO rfl,YAJ hq0]
    refine YAV ⟨b,0,rfl,rfl,hK,hmore,by omega,fun i h1 h2=>?_⟩
    rw[show i=lo+(x+1)-1 by omega];exact⟨hC.rf _,hC.rf _⟩
  | false=>
   dsimp only
   rw[YAJ YAC]
   refine YAL (Ze6 hP hk hdb (by omega) (by omega) ?_)
   cases hg:L (at0 b (lo+x-1)) (at0 b (lo+x)) with
   | true=>exact YAV (h b x nq hK hax (by omega) hs' hq he)
   | false=>
    refine YAV ⟨b,nq+1,rfl,rfl,hK,hs'.more hC fun _=>hg,by omega,fun i h1 h2=>?_⟩
    rw[show lo+(x+1)-1=lo+x by omega]
    by_cases hix:i=lo+x
    ·subst hix;exact⟨hC.rf _,hC.rf _⟩
    ·have e:=he i (by omega) (by omega)
     exact⟨hC.t e.1 hl,hC.t hg e.2⟩
theorem ZlB {a:Array Keyed}{lo nr:Nat}{Q:Option Nat→SortSt→Prop}(hC:CmpT L)(hP:PureC M A E s D L kd)(hk:kindOf st=kd)(hd:∀u∈a.toList,D u)(hn:lo+nr≤a.size)(h1:1≤nr)
  (h:∀b m,Kept lo a b→1≤m→m≤nr→SegU L b lo (lo+m)→Q (some m) (setArr st b)):wpS M A E s (countRun' lo nr) Q (setArr st a):=by
 rw[countRun'_eq]
 refine YAL (YBv (ZiM (Q:=fun c st'=>∃n,c=(none,n)∧st'=setArr st a∧1≤n∧n≤nr∧SegU L a lo (lo+n)∧(n=nr∨L (at0 a (lo+n)) (at0 a (lo+n-1))=true)) hC hP hk hd hn (YAQ 1) h1 (fun i j hl hij hj=>by have:i=j:=(by omega);subst this;exact hC.rf _) fun n a1 a2 a3 a4=>⟨n,rfl,rfl,a1,a2,a3,a4⟩) ?_)
 rintro c st' ⟨n,rfl,rfl,hn1,hn2,hsn,hor⟩
 dsimp only
 by_cases hnn:n=nr
 ·rw[YAO (by simpa using hnn)]
  exact YAV (h a n (Kept.rf _ _) hn1 hn2 hsn)
 ·rw[YAJ (by simpa using hnn)]
  have hlt:=hor.resolve_left hnn
  by_cases hgt:n>1
  ·rw[YAO hgt]
   refine YAL (Ze6 hP hk hd (by omega) (by omega) ?_)
   cases hrose:L (at0 a lo) (at0 a (lo+n-1)) with
   | true=>
    dsimp only
    rw[YAO rfl]
    exact YAV (h a n (Kept.rf _ _) hn1 hn2 hsn)
   | false=>
    dsimp only
    rw[YAJ YAC]
    have hall:∀k,lo≤k→k<lo+n→Eqv L (at0 a k) (at0 a (lo+n-1)):=by
     intro k hk1 hk2
     have a1:=hsn lo k (by omega) hk1 hk2
     have a2:=hsn k (lo+n-1) hk1 (by omega) (by omega)
     exact⟨a2,hC.t hrose a1⟩
    have hsd:SegD L a lo (lo+(n+1)):=by
     refine SegD.more hC (fun i j h1 h2 h3=>?_) fun _=>hC.le hlt
     replace h3:j<lo+n:=h3
     exact hC.t (hall j (by omega) h3).1 (hall i h1 (by omega)).2
    have hK:Kept lo a (mirror a lo (lo+n) ((lo+n-lo)/2)):=Kept.mir (by omega) (YAQ _)
    refine YAL (Zdk ?_)
    obtain⟨b,hb,hKb,hsb⟩:∃b,b=mirror a lo (lo+n) ((lo+n-lo)/2)∧Kept lo a b∧SegD L b lo (lo+(n+1)):=⟨_,rfl,hK,hsd.eqv hC (Zeh hC (by omega) hall)⟩
    rw[←hb]
    have hbs:=Kept.sz hKb
    refine YAL (wpS_lift (YBo ⟨rfl,?_⟩))
    refine YAL (ZgH hC hP hk (Kept.d hKb hd) (by omega) (by omega) (by omega) hsb fun c m nq hK hm1 hm2 hs' hq he=>?_)
    have hcs:=hK.sz
    have hdc:=hK.d (Kept.d hKb hd)
    dsimp only
    by_cases hq0:nq>0
    ·rw[YAO hq0]
     have hK2:Kept lo c (mirror c (lo+m-(nq+1)) (lo+m) ((lo+m-(lo+m-(nq+1)))/2)):=Kept.mir (by omega) (by omega)
     refine YAL (Zdk ?_)
     refine Eq.mp ?_ (Zc1 (Q:=Q) hC hP hk (hK2.d hdc) (by rw[hK2.sz];omega) (by omega) hm2 (hs'.eqv hC (Zeh hC (by omega) he)) fun d k hc=>h d k (Kept.tr hKb (hK.tr (hK2.tr hc))))
     refine congrArg (fun m=>wpS _ _ _ _ m _ _) ?_
     unfold tailO ascO
     refine congrArg _ (funext fun _=>congrArg _ (funext fun c=>?_))
     obtain⟨r3,n3⟩:=c
     cases r3<;>rfl
    ·rw[YAJ hq0]
     refine Eq.mp ?_ (Zc1 (Q:=Q) hC hP hk hdc (by omega) (by omega) hm2 hs' fun d k hc=>h d k (Kept.tr hKb (hK.tr hc)))
     refine congrArg (fun m=>wpS _ _ _ _ m _ _) ?_
     unfold tailO ascO
     refine congrArg _ (funext fun _=>congrArg _ (funext fun c=>?_))
     obtain⟨r3,n3⟩:=c
     cases r3<;>rfl
  ·rw[YAJ hgt]
   obtain⟨b,hb,hKb,hsb⟩:∃b,b=a∧Kept lo a b∧SegD L b lo (lo+(n+1)):=⟨_,rfl,Kept.rf _ _,SegD.more hC (fun i j h1 h2 h3=>by
    replace h3:j<lo+n:=h3
    rw[show i=j by omega];exact hC.rf _) fun _=>hC.le hlt⟩
   rw[←hb]
   have hbs:=Kept.sz hKb
   refine YAL (wpS_lift (YBo ⟨rfl,?_⟩))
   refine YAL (ZgH hC hP hk (Kept.d hKb hd) (by omega) (by omega) (by omega) hsb fun c m nq hK hm1 hm2 hs' hq he=>?_)
   have hcs:=hK.sz
   have hdc:=hK.d (Kept.d hKb hd)
   dsimp only
   by_cases hq0:nq>0
   ·rw[YAO hq0]
    have hK2:Kept lo c (mirror c (lo+m-(nq+1)) (lo+m) ((lo+m-(lo+m-(nq+1)))/2)):=Kept.mir (by omega) (by omega)
    refine YAL (Zdk ?_)
    refine Eq.mp ?_ (Zc1 (Q:=Q) hC hP hk (hK2.d hdc) (by rw[hK2.sz];omega) (by omega) hm2 (hs'.eqv hC (Zeh hC (by omega) he)) fun d k hc=>h d k (Kept.tr hKb (hK.tr (hK2.tr hc))))
    refine congrArg (fun m=>wpS _ _ _ _ m _ _) ?_
    unfold tailO ascO
    refine congrArg _ (funext fun _=>congrArg _ (funext fun c=>?_))
    obtain⟨r3,n3⟩:=c
    cases r3<;>rfl
   ·rw[YAJ hq0]
    refine Eq.mp ?_ (Zc1 (Q:=Q) hC hP hk hdc (by omega) (by omega) hm2 hs' fun d k hc=>h d k (Kept.tr hKb (hK.tr hc)))
    refine congrArg (fun m=>wpS _ _ _ _ m _ _) ?_
    unfold tailO ascO
    refine congrArg _ (funext fun _=>congrArg _ (funext fun c=>?_))
    obtain⟨r3,n3⟩:=c
    cases r3<;>rfl
end
noncomputable def Pd (L:Keyed→Keyed→Bool):Nat→List (Nat×Nat×Nat)→List (List Keyed)→Prop
 | _,[],[]=>True
 | o,t::ps,r::rs=>t.1=o∧t.2.1=r.length∧r≠[]∧r.Pairwise (Le L)∧Pd L (o+r.length) ps rs
 | _,_,_=>False
section
variable {M:Model}{A:Around}{E:Value→Shared→Prop}{s:Shared}{D:Keyed→Prop}{L:Keyed→Keyed→Bool}{kd:SortKind}{st:SortSt}
theorem Pd.len:∀ {ps:List (Nat×Nat×Nat)} {rs:List (List Keyed)} {o:Nat},Pd L o ps rs→ps.length=rs.length
 | [],[],_,_=>rfl
 | t::ps,r::rs,o,h=>by have:=Pd.len h.2.2.2.2;simp[this]
 | [],_::_,_,h=>h.elim
 | _::_,[],_,h=>h.elim
theorem Pd.le:∀ {ps:List (Nat×Nat×Nat)} {rs:List (List Keyed)} {o:Nat},Pd L o ps rs→ps.length≤rs.flatten.length
 | [],[],_,_=>by simp
 | t::ps,r::rs,o,h=>by
  have h1:=Pd.le h.2.2.2.2
  have h2:=YBj.mpr h.2.2.1
  rw[YBk,YAF,YAn];omega
 | [],_::_,_,h=>h.elim
 | _::_,[],_,h=>h.elim
theorem Pd.app:∀ {ps:List (Nat×Nat×Nat)} {rs:List (List Keyed)} {o:Nat} {t:Nat×Nat×Nat} {r:List Keyed},Pd L o ps rs→t.1=o+rs.flatten.length→t.2.1=r.length→r≠[]→r.Pairwise (Le L)→Pd L o (ps++[t]) (rs++[r])
 | [],[],o,t,r,_,h1,h2,h3,h4=>⟨by simpa using h1,h2,h3,h4,trivial⟩
 | t::ps,r::rs,o,t',r',h,h1,h2,h3,h4=>⟨h.1,h.2.1,h.2.2.1,h.2.2.2.1,Pd.app h.2.2.2.2 (by rw[h1,YBk,YAF];omega) h2 h3 h4⟩
 | [],_::_,_,_,_,h,_,_,_,_=>h.elim
 | _::_,[],_,_,_,h,_,_,_,_=>h.elim
theorem Pd.pow:∀ {ps qs:List (Nat×Nat×Nat)} {rs:List (List Keyed)} {o:Nat},Pd L o ps rs→ps.map (fun t=>(t.1,t.2.1))=qs.map (fun t=>(t.1,t.2.1))→Pd L o qs rs
 | [],qs,[],_,_,e=>by
  have:qs=[]:=by simpa using e.symm
  subst this;trivial
 | t::ps,qs,r::rs,o,h,e=>by
  cases qs with
  | nil=>simp at e
  | cons u qs=>
   simp only[YAf,List.cons.injEq,Prod.mk.injEq]at e
   exact⟨e.1.1▸h.1,e.1.2▸h.2.1,h.2.2.1,h.2.2.2.1,Pd.pow h.2.2.2.2 e.2⟩
 | [],_,_::_,_,h,_=>h.elim
 | _::_,_,[],_,h,_=>h.elim
theorem Pd.pick:∀ {ps:List (Nat×Nat×Nat)} {rs:List (List Keyed)} {o i:Nat},Pd L o ps rs→i+1<ps.length →
  ∃ra X Y rb pw pw2,rs=ra++X::Y::rb∧ps[i]?=some (o+ra.flatten.length,X.length,pw)∧ps[i+1]?=some (o+ra.flatten.length+X.length,Y.length,pw2)∧X≠[]∧Y≠[]∧X.Pairwise (Le L)∧Y.Pairwise (Le L) ∧
   ∀V:List Keyed,V.length=X.length+Y.length→V.Pairwise (Le L)→Pd L o ((ps.set i (o+ra.flatten.length,X.length+Y.length,pw)).eraseIdx (i+1)) (ra++V::rb)
 | t::u::ps,r::r2::rs,o,0,h,_=>by
  obtain⟨a1,a2,a3,a4,b1,b2,b3,b4,b5⟩:=h
  obtain⟨t1,t2,t3⟩:=t
  obtain⟨u1,u2,u3⟩:=u
  dsimp only at a1 a2 b1 b2
  subst a1 a2 b1 b2
  refine⟨[],r,r2,rs,t3,u3,rfl,by simp,by simp,a3,b3,a4,b4,fun V hV hs=>?_⟩
  refine⟨by simp,by simpa using hV.symm,?_,hs,?_⟩
  ·intro e;rw[e]at hV;have:=YBj.mpr a3;simp at hV;omega
  ·rw[hV,←Nat.add_assoc];exact b5
 | t::ps,r::rs,o,i+1,h,hi=>by
  obtain⟨a1,a2,a3,a4,a5⟩:=h
  obtain⟨ra,X,Y,rb,pw,pw2,h1,h2,h3,h4,h5,h6,h7,h8⟩:=Pd.pick a5 (i:=i) (by simpa using hi)
  refine⟨r::ra,X,Y,rb,pw,pw2,by rw[h1];rfl,?_,?_,h4,h5,h6,h7,fun V hV hs=>?_⟩
  ·rw[List.getElem?_cons_succ,h2,YBk,YAF,Nat.add_assoc]
  ·rw[List.getElem?_cons_succ,h3,YBk,YAF,Nat.add_assoc o]
  ·have:=h8 V hV hs
   rw[List.set_cons_succ,List.eraseIdx_cons_succ,YBk,YAF,←Nat.add_assoc]
   exact⟨a1,a2,a3,a4,this⟩
 | [_],[_],_,0,_,h=>by simp at h
 | [],_,_,_,_,h=>by simp at h
 | _::_,[],_,_,h,_=>h.elim
 | _::_::_,[_],_,0,h,_=>h.2.2.2.2.elim
 | [_],_::_::_,_,0,h,_=>h.2.2.2.2.elim
structure SI (L:Keyed→Keyed→Bool)(kd:SortKind)(a0:List Keyed)(n:Nat)(Z:List Keyed)(st:SortSt):Prop where
 kind:kindOf st=kd
 fail:failedOf st=none
 perm:(arrOf st).toList.Perm a0
 runs:∃rs:List (List Keyed),(arrOf st).toList=rs.flatten++Z∧rs.flatten.length=n∧Pd L 0 (pendingOf st).toList rs
theorem SI.merge {a0 Z:List Keyed}{n i:Nat}{Q:Bool→SortSt→Prop}(hC:CmpT L)(hP:PureC M A E s D L kd)(hd:∀u∈a0,D u)(h:SI L kd a0 n Z st)(hi:i+1<(pendingOf st).size)
  (q:∀st',SI L kd a0 n Z st'→(pendingOf st').size+1=(pendingOf st).size→Q true st'):wpS M A E s (mergeAt' i) Q st:=by
 obtain⟨h1,h2,h3,rs,h4,h5,h6⟩:=h
 obtain⟨ra,X,Y,rb,pw,pw2,rfl,p1,p2,p3,p4,p5,p6,p7⟩:=h6.pick (i:=i) (by simpa using hi)
 rw[Nat.zero_add]at p1 p2
 have ha:(arrOf st).toList=ra.flatten++X++Y++(rb.flatten++Z):=by rw[h4];simp
 refine ZmZ hC.to hP h1 h2 ha (fun u hu=>hd u (h3.mem_iff.mp hu)) p3 p4 p5 p6 (by rw[←YAl];exact p1) (by rw[←YAl];exact p2) fun V a g hV hp hs=>?_
 have hl:=hp.length_eq
 rw[YAF]at hl
 refine q _ ⟨rfl,rfl,?_,ra++V::rb,?_,?_,?_⟩ ?_
 ·show a.toList.Perm a0
  refine List.Perm.trans ?_ h3
  rw[hV,ha]
  have:=(List.Perm.append_left ra.flatten hp).append_right (rb.flatten++Z)
  simpa using this
 ·show a.toList=_
  rw[hV];simp
 ·rw[←h5];simp[hl];omega
 ·show Pd L 0 (Array.eraseIdxIfInBounds _ _).toList _
  have:=p7 V hl hs
  rw[Nat.zero_add]at this
  rw[Array.toList_eraseIdxIfInBounds,YDT]
  exact this
 ·show (Array.eraseIdxIfInBounds _ _).size+1=_
  rw[←YAN,Array.toList_eraseIdxIfInBounds,YDT,YDS (by simpa using hi),List.length_set,YAN]
  omega
end
theorem Kept.pref {lo:Nat}{a b:Array Keyed}{F Z:List Keyed}(h:Kept lo a b)(ha:a.toList=F++Z)(hF:F.length=lo):b.toList=F++b.toList.drop lo:=by
 have e:b.toList.take lo=F:=by
  refine YCh fun i=>?_
  rw[YCX]
  by_cases hi:i<lo
  ·rw[YAO hi,YAl,h.pre i hi,←YAl,ha,YAi (by omega)]
  ·rw[YAJ hi,YBO (by omega)]
 conv=>lhs;rw[←YAk lo b.toList,e]
theorem SegU.pw {L:Keyed→Keyed→Bool}{b:Array Keyed}{lo m:Nat}(h:SegU L b lo (lo+m)):((b.toList.drop lo).take m).Pairwise (Le L):=by
 rw[YDX]
 intro i j hi hj hij
 rw[YAb,YAm,YAN]at hi hj
 have e:∀k (hk:k<((b.toList.drop lo).take m).length),at0 b (lo+k)=((b.toList.drop lo).take m)[k]:=by
  intro k hk
  rw[YAb,YAm,YAN]at hk
  unfold at0
  rw[getElem?_pos b (lo+k) (by omega)]
  simp
 rw[←e i (by simp;omega),←e j (by simp;omega)]
 exact h _ _ (by omega) (by omega) (by omega)
section
variable {M:Model}{A:Around}{E:Value→Shared→Prop}{s:Shared}{D:Keyed→Prop}{L:Keyed→Keyed→Bool}{kd:SortKind}{st:SortSt}
theorem SI.push {a0 R Z:List Keyed}{lo n p:Nat}(h:SI L kd a0 lo (R++Z) st)(h1:R.length=n)(h2:R≠[])(h3:R.Pairwise (Le L)):SI L kd a0 (lo+n) Z (setPending st ((pendingOf st).push (lo,n,p))):=by
 obtain⟨a1,a2,a3,rs,a4,a5,a6⟩:=h
 refine⟨a1,a2,a3,rs++[R],?_,?_,?_⟩
 ·show (arrOf st).toList=_
  rw[a4];simp
 ·simp[a5,h1]
 ·show Pd L 0 ((pendingOf st).push (lo,n,p)).toList _
  rw[YBW]
  exact a6.app (by simp[a5]) h1.symm h2 h3
theorem Zg5 {α β:Type}(g:α→β)(f:α→α)(h:∀x,g (f x)=g x)(l:List α)(k:Nat):(l.modify k f).map g=l.map g:=by
 refine YCh fun i=>?_
 rw[YAo,YAo,List.getElem?_modify]
 cases l[i]? with
 | none=>rfl
 | some x=>by_cases e:k=i<;>simp[e,h]
theorem SI.pow {a0 Z:List Keyed}{lo k w:Nat}(h:SI L kd a0 lo Z st):SI L kd a0 lo Z (setPending st ((pendingOf st).modify k fun x=>(x.1,x.2.1,w))):=by
 obtain⟨a1,a2,a3,rs,a4,a5,a6⟩:=h
 refine⟨a1,a2,a3,rs,a4,a5,?_⟩
 show Pd L 0 ((pendingOf st).modify k _).toList _
 rw[Array.toList_modify]
 exact a6.pow (Zg5 (fun t=>(t.1,t.2.1)) (fun x=>(x.1,x.2.1,w)) (fun _=>rfl) _ _).symm
theorem ZhH {a0:List Keyed}{Q:Unit→SortSt→Prop}(hC:CmpT L)(hP:PureC M A E s D L kd)(hd:∀u∈a0,D u)(hk:kindOf st=kd)(hf:failedOf st=none)(hpe:pendingOf st=#[])(ha:(arrOf st).toList=a0)
  (q:∀st',(arrOf st').toList.Perm a0→(arrOf st').toList.Pairwise (Le L)→failedOf st'=none→Q () st'):wpS M A E s sortRuns' Q st:=by
 rw[sortRuns'_eq]
 refine YAL (YDK ?_)
 dsimp only
 obtain⟨N,hN⟩:∃N,N=(arrOf st).size:=⟨_,rfl⟩
 have hN':a0.length=N:=by rw[hN,←ha,YAN]
 rw[←hN]
 have hSI:SI L kd a0 0 a0 st:=⟨hk,hf,by rw[ha],[],by simpa using ha,rfl,by rw[hpe];trivial⟩
 refine YAL (YBv (YBL (a:=0) (b:=N) (I:=fun x c st'=>∃lo Z,c=(none,lo)∧SI L kd a0 lo Z st'∧x≤lo∧lo≤N)
  (Q:=fun c st'=>∃Z,c=(none,N)∧SI L kd a0 N Z st') ?step ?fin ⟨0,a0,rfl,hSI,by omega,by omega⟩) ?post)
 case fin=>
  rintro c st' ⟨lo,Z,rfl,hS,hx,hl⟩
  have:lo=N:=by omega
  subst this
  exact⟨Z,rfl,hS⟩
 case post=>
  rintro c st' ⟨Z,rfl,hS⟩
  have hZ:∀st',SI L kd a0 N Z st'→Z=[]:=by
   intro st' hS
   obtain⟨h1,h2,h3,rs,h4,h5,h6⟩:=hS
   have:=h3.length_eq
   rw[h4,YAF,h5,hN']at this
   exact YCx.mp (by omega)
  dsimp only
  refine YAL (YBv (YBL (a:=0) (b:=N) (I:=fun x c st'=>c=(none,())∧SI L kd a0 N Z st'∧(pendingOf st').size+x≤N)
   (Q:=fun c st'=>c=(none,())∧SI L kd a0 N Z st'∧(pendingOf st').size≤1) ?s2 ?f2 ⟨rfl,hS,?_⟩) ?p2)
  case f2=>
   rintro c st' ⟨rfl,hS,hx⟩
   exact⟨rfl,hS,by omega⟩
  case p2=>
   rintro c st' ⟨rfl,hS,hx⟩
   obtain⟨h1,h2,h3,rs,h4,h5,h6⟩:=hS
   have:=hZ st' ⟨h1,h2,h3,rs,h4,h5,h6⟩
   subst this
   refine YAV (q st' h3 ?_ h2)
   have hl:=h6.len
   rw[YAN]at hl
   rw[h4,YBt]
   cases rs with
   | nil=>exact List.Pairwise.nil
   | cons r rs=>
    cases rs with
    | nil=>
     cases hps:(pendingOf st').toList with
     | nil=>rw[hps]at h6;exact h6.elim
     | cons t ps=>rw[hps]at h6;simpa using h6.2.2.2.1
    | cons r2 rs=>simp at hl;omega
  case s2=>
   rintro x c st' _ hx ⟨rfl,hS,hpx⟩
   refine YAL (YDK ?_)
   by_cases hp1:(pendingOf st').size≤1
   ·rw[YAO hp1]
    exact YAV ⟨rfl,hS,hp1⟩
   ·rw[YAJ hp1]
    refine YAL (hS.merge hC hP hd ?_ fun st2 hS2 hp2=>?_)
    ·have hle:∀(c:Prop) [Decidable c] (k:Nat),(if c then k-1 else k)≤k:=fun c _ k=>by split<;>omega
     exact YCW (YDF (hle _ _)) (by omega)
    ·exact YAV ⟨rfl,hS2,by omega⟩
  ·obtain⟨h1,h2,h3,rs,h4,h5,h6⟩:=hS
   have:=h6.le
   rw[YAN]at this
   omega
 case step=>
  rintro x c st' _ hx ⟨lo,Z,rfl,hS,hxl,hl⟩
  dsimp only
  by_cases hlo:lo≥N
  ·rw[YAO hlo]
   have:lo=N:=by omega
   subst this
   exact YAV ⟨Z,rfl,hS⟩
  rw[YAJ hlo]
  obtain⟨h1,h2,h3,rs,h4,h5,h6⟩:=hS
  have hsz:(arrOf st').size=N:=by rw[←YAN,h3.length_eq,hN']
  have hda:∀u∈(arrOf st').toList,D u:=fun u hu=>hd u (h3.mem_iff.mp hu)
  refine YAL (Eq.mp (congrArg (fun v=>wpS M A E s (countRun' lo (N-lo)) _ v) (show setArr st' (arrOf st')=st' from rfl)) (ZlB hC hP h1 hda (by omega) (by omega) fun b m hK hm1 hm2 hsm=>?_))
  dsimp only
  have hbz:=hK.sz
  by_cases hmr:m<minRun' N N 0
  ·rw[YAO hmr]
   obtain⟨n,hn⟩:∃n,n=min (N-lo) (minRun' N N 0):=⟨_,rfl⟩
   rw[←hn]
   refine YAL (wpS_lift (YBo ⟨rfl,?_⟩))
   refine YAL (ZlD hC hP h1 (hK.d hda) (by omega) (by omega) hsm fun b2 hK2 hs2=>?_)
   rw[YAJ (by simp)]
   have hKb:=hK.tr hK2
   have hn1:1≤n:=by omega
   have hn2:n≤N-lo:=by omega
   have hbz2:=Kept.sz hKb
   have hb1:=Kept.pref hKb h4 h5
   obtain⟨R,hR⟩:∃R,R=(List.drop lo (Array.toList b2)).take n:=⟨_,rfl⟩
   obtain⟨Z2,hZ2⟩:∃Z2,Z2=(List.drop lo (Array.toList b2)).drop n:=⟨_,rfl⟩
   have hRZ:(List.drop lo (Array.toList b2))=R++Z2:=by rw[hR,hZ2,YAk]
   have hRl:R.length=n:=by rw[hR,YAb,YAm,YAN];omega
   have hRn:R≠[]:=by intro e;rw[e]at hRl;simp at hRl;omega
   have hRs:R.Pairwise (Le L):=by rw[hR];exact SegU.pw hs2
   have hS:SI L kd a0 lo (R++Z2) (setArr st' b2):=⟨h1,h2,(YCj.mp (Kept.perm hKb)).trans h3,rs,by rw[←hRZ];exact hb1,h5,h6⟩
   refine YAL (YDK ?_)
   cases hb:(pendingOf (setArr st' b2)).back? with
   | none=>
    dsimp only
    exact YAL (YCG (YAV ⟨lo+n,Z2,rfl,hS.push hRl hRn hRs,by omega,by omega⟩))
   | some t=>
    obtain⟨s1,n1,p1⟩:=t
    dsimp only
    refine YAL (YBv (YBL (a:=0) (b:=N) (I:=fun y c st2=>c=(none,())∧SI L kd a0 lo (R++Z2) st2) (Q:=fun c st2=>c=(none,())∧SI L kd a0 lo (R++Z2) st2) ?_ (fun _ _ h=>h) ⟨rfl,hS⟩) ?_)
    ·rintro y c st2 _ _ ⟨hc,hS2⟩
     subst hc
     refine YAL (YDK ?_)
     by_cases hp:(pendingOf st2).size>1
     ·rw[YAO hp]
      obtain⟨t,ht⟩:∃t,(pendingOf st2)[(pendingOf st2).size-2]?=some t:=⟨_,getElem?_pos _ _ (by omega)⟩
      obtain⟨t1,t2,t3⟩:=t
      rw[ht]
      dsimp only
      split
      ·exact YAV ⟨rfl,hS2⟩
      ·exact YAL (hS2.merge hC hP hd (by omega) fun st3 hS3 _=>YAV ⟨rfl,hS3⟩)
     ·rw[YAJ hp]
      exact YAV ⟨rfl,hS2⟩
    ·rintro c st2 ⟨hc,hS2⟩
     subst hc
     exact YAL (YCG (YAL (YCG (YAV ⟨lo+n,Z2,rfl,hS2.pow.push hRl hRn hRs,by omega,by omega⟩))))
  ·rw[YAJ hmr]
   have hKb:=hK
   have hbz2:=Kept.sz hKb
   have hb1:=Kept.pref hKb h4 h5
   obtain⟨R,hR⟩:∃R,R=(List.drop lo (Array.toList b)).take m:=⟨_,rfl⟩
   obtain⟨Z2,hZ2⟩:∃Z2,Z2=(List.drop lo (Array.toList b)).drop m:=⟨_,rfl⟩
   have hRZ:(List.drop lo (Array.toList b))=R++Z2:=by rw[hR,hZ2,YAk]
   have hRl:R.length=m:=by rw[hR,YAb,YAm,YAN];omega
   have hRn:R≠[]:=by intro e;rw[e]at hRl;simp at hRl;omega
   have hRs:R.Pairwise (Le L):=by rw[hR];exact SegU.pw hsm
   have hS:SI L kd a0 lo (R++Z2) (setArr st' b):=⟨h1,h2,(YCj.mp (Kept.perm hKb)).trans h3,rs,by rw[←hRZ];exact hb1,h5,h6⟩
   refine YAL (YDK ?_)
   cases hb:(pendingOf (setArr st' b)).back? with
   | none=>
    dsimp only
    exact YAL (YCG (YAV ⟨lo+m,Z2,rfl,hS.push hRl hRn hRs,by omega,by omega⟩))
   | some t=>
    obtain⟨s1,n1,p1⟩:=t
    dsimp only
    refine YAL (YBv (YBL (a:=0) (b:=N) (I:=fun y c st2=>c=(none,())∧SI L kd a0 lo (R++Z2) st2) (Q:=fun c st2=>c=(none,())∧SI L kd a0 lo (R++Z2) st2) ?_ (fun _ _ h=>h) ⟨rfl,hS⟩) ?_)
    ·rintro y c st2 _ _ ⟨hc,hS2⟩
     subst hc
     refine YAL (YDK ?_)
     by_cases hp:(pendingOf st2).size>1
     ·rw[YAO hp]
      obtain⟨t,ht⟩:∃t,(pendingOf st2)[(pendingOf st2).size-2]?=some t:=⟨_,getElem?_pos _ _ (by omega)⟩
      obtain⟨t1,t2,t3⟩:=t
      rw[ht]
      dsimp only
      split
      ·exact YAV ⟨rfl,hS2⟩
      ·exact YAL (hS2.merge hC hP hd (by omega) fun st3 hS3 _=>YAV ⟨rfl,hS3⟩)
     ·rw[YAJ hp]
      exact YAV ⟨rfl,hS2⟩
    ·rintro c st2 ⟨hc,hS2⟩
     subst hc
     exact YAL (YCG (YAL (YCG (YAV ⟨lo+m,Z2,rfl,hS2.pow.push hRl hRn hRs,by omega,by omega⟩))))
end
noncomputable def keyD (κ:KeyKind) (p:Keyed):κ.α:=(κ.keyOf p.1).getD κ.dflt
noncomputable def ltD (κ:KeyKind) (x y:Keyed):Bool:=κ.blt (keyD κ x) (keyD κ y)
theorem Zk9 (κ:KeyKind):CmpT (ltD κ):=
 ⟨fun x y _ _ h=>KeyOrd.klt_asymm (O:=κ.toKeyOrd) h,fun x y z _ _ _ h1 h2=>KeyOrd.kle_trans (O:=κ.toKeyOrd) h1 h2⟩
section
variable {prog:Program}{w:World}{A:Around}{E:Value→Shared→Prop}{s:Shared}{κ:KeyKind}
theorem Zjn (hO:κ.OneLt):PureC (model prog w) A E s (fun p=>∃a,κ.keyOf p.1=some a) (ltD κ) oneType':=by
 rintro st ⟨x,p⟩ ⟨y,r⟩ Q hk ⟨a,ha⟩ ⟨b,hb⟩ q
 have e:ltD κ (x,p) (y,r)=κ.blt a b:=by unfold ltD keyD;rw[ha,hb];rfl
 rw[e]at q
 rw[lt'_eq]
 refine YAL (YDK ?_)
 rw[hk,keyLt'_oneType]
 exact YAL (wpS_lift (YBz (hO prog w A _ s x y a b ha hb ⟨rfl,YAV q⟩)))
theorem ZiW {a0:Array Keyed}{st:SortSt}{Q:Unit→SortSt→Prop}(hO:κ.OneLt)(h0:KeysOf κ a0)(hk:kindOf st=oneType')(hf:failedOf st=none)(hp:pendingOf st=#[])(ha:arrOf st=a0)
  (q:∀st',(arrOf st').Perm a0→failedOf st'=none→SortedToK κ (arrOf st') a0.size→Q () st'):wpS (model prog w) A E s sortRuns' Q st:=by
 refine ZhH (a0:=a0.toList) (Zk9 κ) (Zjn hO) h0 hk hf hp (by rw[ha]) fun st' p1 p2 p3=>q st' (YCj.mpr p1) p3 ?_
 have hsz:(arrOf st').size=a0.size:=by rw[←YAN,p1.length_eq,YAN]
 intro i j hij hj
 have hK:∀k (hk:k<(arrOf st').size),KK κ (arrOf st') k=keyD κ ((arrOf st').toList[k]'(by simpa using hk)):=by
  intro k hk
  unfold KK keyD
  rw[getElem?_pos _ k hk];rfl
 rw[hK i (by omega),hK j (by omega)]
 by_cases e:i=j
 ·subst e;exact KeyOrd.kle_refl _
 ·exact YDX.mp p2 i j (by simp;omega) (by simp;omega) (by omega)
end
section
variable {prog:Program}{w:World}{A:Around}{E:Value→Shared→Prop}{s:Shared}{κ:KeyKind}
theorem ZiV (hO:κ.OneLt) {a:Addr} {vs:List Value} {n:Nat} {P:Fin→Shared→Prop} (ho:s.heap.get? a=some (seqObj "list" vs.toArray n))
  (h0:KeysOf κ (pairsOf vs)) (hkk:∀x y r,vs=x::y::r→keyKind' (x::y::r).toArray=pure oneType') (hN:vs.length≤sizeLine)
  (h:∀v:SortSt,(arrOf v).Perm (pairsOf vs)→SortedToK κ (arrOf v) (pairsOf vs).size→P (.done (.ret .none)) { s with heap:=sortedHeap s.heap a vs ((arrOf v).map (·.2)) }):
  wpAny (model prog w) A (Builtin.«list.sort» ⟨[.ref a],[]⟩) P E s:=by
 by_cases h64:vs.length<64
 ·exact list_sort_treeK hO ho h0 hkk h64 h
 obtain⟨x,y,r,hv⟩:∃x y r,vs=x::y::r:=by
  match vs,h64 with
  | x::y::r,_=>exact⟨x,y,r,rfl⟩
  | [x],h=>simp at h
  | [],h=>simp at h
 have h2:¬vs.toArray.size<2:=by rw[YAI];omega
 have hlt:a<s.heap.objs.size:=YAH ho
 have up:=get?_update_seq ho (fun _=>#[])
 generalize hep:(if (#[]:Array Value).size == vs.toArray.size then n else n+1)=ep at up
 have up3:(((s.heap.update a (Obj.mapSeq fun _=>#[])).push (seqObj "tuple" vs.toArray 0)).push (seqObj "list" #[] 0)).get? a=some (seqObj "list" #[] ep):=by
  rw[Heap.get?_push_ne,Heap.get?_push_ne]
  ·exact up
  ·rw[Heap.size_update];exact YAX hlt
  ·rw[size_push',Heap.size_update];exact YAX (YCK hlt)
 rw[list_sort_plain]
 refine YAA (listItems_at ho rfl (YAA (listUpdate_at ho rfl (YAA (seqEpoch_at up rfl (YAA (wpAny_newTuple (YAA (wpAny_newList (YBU ?_)))))) ) (hsz:=by rw[YAI];exact hN))))
 dsimp only
 rw[YAJ h2,YAJ h2]
 have hk1:keyKind' vs.toArray=pure oneType':=by rw[hv];exact hkk x y r hv
 rw[hk1]
 refine YAA (YAD (YAA (YBF (ZiW hO h0 (st:=SortSt.mk' oneType' (pairsOf vs) #[] 7 none) (Q:=fun _ v=>(arrOf v).Perm (pairsOf vs)∧failedOf v=none∧SortedToK κ (arrOf v) (pairsOf vs).size) rfl rfl rfl rfl fun v p1 p2 p3=>⟨p1,p2,p3⟩) ?_ fun _ _ e=>e)))
 rintro⟨⟨⟩,v⟩ s2 ⟨rfl,p1,p2,p3⟩
 dsimp only
 refine YAA (seqEpoch_at up3 rfl (YAA (listUpdate_at up3 rfl ?_ (hsz2:=?_))))
 ·rw[p2,bne_self_eq_false]
  exact YAD (h v p1 p3)
 ·rw[Array.size_map,p1.size_eq,pairsOf_size];omega
end
section
variable {prog:Program}{w:World}{A:Around}{E:Value→Shared→Prop}{s:Shared}
theorem ZdT {vs:List Value}{ms:List (List Nat)}{Q:Value→Shared→Prop}(hv:Vals (ms.map tx) vs)(h64:ms.length≤sizeLine)
  (h:∀(h':Heap) (us:List Value) (e:Nat),(∀b o,s.heap.get? b=some o→h'.get? b=some o)→h'.get? s.heap.objs.size=some { cls:=.type "list",data:=.seq us.toArray e }→Vals ((Za4 ms).map tx) us→Q (.ref s.heap.objs.size) { s with heap:=h' }):
  wpAny (model prog w) A (do let l ←newList vs;let _ ←holding [l] (call (.builtin "list.sort") [l] []);ret l) (fun fin s'=>∃v,fin=Fin.done (Flow.ret v)∧Q v s') E s:=by
 have hS:=ZeL hv
 have hlen:vs.length≤sizeLine:=by rw[←hv.length,YAE];exact h64
 refine YAA (wpAny_newList ?_ ?_)
 ·have hoL:(s.heap.push (seqObj "list" vs.toArray 0)).get? s.heap.objs.size=some (seqObj "list" vs.toArray 0):=YAG _ rfl
  refine YAA (YBU (YBg slot_list_sort ⟨_,hoL,rfl⟩ entry_list_sort (ZiV strKind_oneLt hoL hS.keysOf (fun v₁ v₂ rest e=>keyKind_strs (by rw[←e];exact hS)) hlen fun st' a1 a2=>⟨_,rfl,?_⟩) (args_list_sort _)))
  obtain⟨ss',b1,b2,b3⟩:=sorted_out_str hS a1 a2
  obtain⟨e,he⟩:=sortedHeap_at (out:=(arrOf st').map (·.2)) hoL
  refine YAD ⟨_,rfl,h _ ((arrOf st').map (·.2)).toList e (fun b o q=>?_) ?_ ?_⟩
  ·have hlt:=YAH q
   have hlt':b<(s.heap.push (seqObj "list" vs.toArray 0)).objs.size:=by rw[YAs];exact YCK hlt
   exact(sortedHeap_old (YAX hlt) hlt').trans (YAB _ q)
  ·have q:((arrOf st').map (·.2)).toList.toArray=(arrOf st').map (·.2):=YCl
   rw[q];exact he
  ·have p1:(ss'.map fun x=>x.cps.toList).Perm ms:=by
    have:=b2.map (fun x:Str=>x.cps.toList)
    rwa [ZgJ]at this
   have e1:=Zb1 p1 (Zcl b3)
   rw[←e1]
   exact ZfC b1
 ·exact hlen
theorem ZfE {S:Addr}{ls:List (List Nat)}{Q:Value→Shared→Prop}(hh:A.handled=none)(hS:TxSet prog w s.heap S ls (!Za7 w))(h64:ls.length≤sizeLine)
  (h:∀(s':Shared) (a:Addr) (us:List Value) (e:Nat),s.heap.get? a=none→(∀b o,s.heap.get? b=some o→s'.heap.get? b=some o)→s'.gens=s.gens→s'.os=s.os→s'.heap.get? a=some { cls:=.type "list",data:=.seq us.toArray e }→Vals ((Za4 ls).map tx) us→Q (.ref a) s'):
  wpAny (model prog w) A (call (.builtin "sorted") [.ref S]) Q E s:=by
 refine YDZ kind_sorted plain_sorted entry_sorted (args_sorted1 _) ?_
 unfold Builtin.«sorted»
 refine YAA (m:=checkCount "sorted" 1 1 _) (YAD ?_)
 refine YAA (ZdE (by first | exact hh | simpa using hh) hS h64 fun s' vs ms k1 hg ho hp hv=>?_)
 have hl:ms.length≤sizeLine:=by rw[hp.length_eq];exact h64
 refine ZdT hv hl fun h' us e k2 he r=>?_
 rw[Zdf hp]at r
 exact h _ _ us e (by
  cases q:s.heap.get? s'.heap.objs.size with
  | none=>rfl
  | some o=>exact absurd (YAH (k1 _ _ q)) (YAv _)) (fun b o q=>k2 b o (k1 b o q)) hg ho he r
end
section
variable {X:Cx}{e:Expr}{ta:TA}{p p2 pos kpos:Pos}
theorem ZeB (hc:X.calm=true):ZcD X (.builtin "sorted") (fun xs H Q=>∃a ls,xs=[.ref a]∧H a=some (.lst (ls.map tx))∧ls.length≤sizeLine∧NewL ((Za4 ls).map tx) H Q):=by
 rintro pins s σ H xs us Q I r ⟨a,ls,rfl,ha,h64,q⟩
 obtain⟨u,rfl,ru⟩:=r.one
 cases ru
 obtain⟨_,its,n,r2,hlen,eo⟩:=I.lstM ha
 have hl:(Za4 ls).length≤sizeLine:=by rw[(ZaJ ls).length_eq];exact h64
 have li:its.length=ls.length:=by rw[←r2.length,YAE]
 refine YDZ kind_sorted plain_sorted entry_sorted (args_sorted1 _) ?_
 unfold Builtin.«sorted»
 refine YAA (m:=checkCount "sorted" 1 1 _) (YAD ?_)
 refine YAA (collect_list (PySem.IsL.isList eo) ?_ (by rw[li];exact h64))
 have sb:=YAd (s.heap.push (seqObj "list" #[] 0)) s.heap.objs.size (Obj.mapSeq (·++its.toArray))
 have k1:∀b o,s.heap.get? b=some o→((s.heap.push (seqObj "list" #[] 0)).update s.heap.objs.size (Obj.mapSeq (·++its.toArray))).get? b=some o:=fun b o e=>(sb.2 b (YAX (YAH e))).trans (YAB _ e)
 refine ZdT (s:={ s with heap:=(s.heap.push (seqObj "list" #[] 0)).update s.heap.objs.size (Obj.mapSeq (·++its.toArray)) }) r2 h64 fun h' us e k2 he rr=>?_
 generalize ((s.heap.push (seqObj "list" #[] 0)).update s.heap.objs.size (Obj.mapSeq (·++its.toArray)))=g at k1 k2 he ⊢
 have nw:s.heap.get? g.objs.size=none:=by
  cases z:s.heap.get? g.objs.size with
  | none=>rfl
  | some o=>exact absurd (YAH (k1 _ _ z)) (YAv _)
 exact⟨.ref g.objs.size,_,I.laid2 (s':={ s with heap:=h' }) (o:=.lst ((Za4 ls).map tx)) rfl rfl (fun b o z=>k2 b o (k1 b o z)) nw ⟨by rw[YAE];exact hl,us,e,rr,he⟩,rfl,q _ (I.hok.none_of nw)⟩
end
theorem Zfe (b:Bool)(x y:Value):keyLt' (tuples' b) x y=(do
  let xs ←Builtin.List.listItems x
  let ys ←Builtin.List.listItems y
  for ((p,r),i) in (xs.toList.zip ys.toList).zipIdx do
   if !(←eqBool p r) then return ←oneLt' (b&&i == 0) p r
  return xs.size<ys.size):=rfl
noncomputable def keyT (h:Heap):Value→Int×List Nat
 | .ref a=>match h.get? a with
  | some o=>match o.data with
   | .seq xs _=>match xs.toList with
    | [.int n _,.str w _]=>(n,w.cps.toList)
    | _=>(0,[])
   | _=>(0,[])
  | none=>(0,[])
 | _=>(0,[])
noncomputable def ltP (a b:Int×List Nat):Bool:=decide (a.1<b.1) || (a.1 == b.1&&decide (a.2<b.2))
noncomputable def ltT (h:Heap) (x y:Keyed):Bool:=ltP (keyT h x.1) (keyT h y.1)
theorem ZfM {a b:Int×List Nat}:ltP a b=true↔a.1<b.1∨(a.1=b.1∧a.2<b.2):=by
 unfold ltP;simp
theorem Zh8 {a b:Int×List Nat}:ltP b a=false↔a.1<b.1∨(a.1=b.1∧¬b.2<a.2):=by
 rw[←Bool.not_eq_true,ZfM]
 constructor
 ·intro h
  by_cases e:a.1=b.1
  ·exact .inr ⟨e,fun k=>h (.inr ⟨e.symm,k⟩)⟩
  ·exact .inl (by
    have:¬b.1<a.1:=fun k=>h (.inl k)
    omega)
 ·rintro (h | ⟨h,k⟩) (l | ⟨l,m⟩)
  ·omega
  ·omega
  ·omega
  ·exact k m
theorem Zk7 (h:Heap):CmpT (ltT h):=by
 refine⟨fun x y _ _ e=>?_,fun x y z _ _ _ e f=>?_⟩
 ·unfold ltT at e ⊢
  rw[ZfM]at e
  rw[Zh8]
  rcases e with e | ⟨e,f⟩
  ·exact .inl e
  ·exact .inr ⟨e,List.lt_asymm f⟩
 ·unfold ltT at e f ⊢
  rw[Zh8]at e f ⊢
  rcases e with e | ⟨e,e2⟩<;>rcases f with f | ⟨f,f2⟩
  ·exact .inl (by omega)
  ·exact .inl (by omega)
  ·exact .inl (by omega)
  ·exact .inr ⟨by omega,List.not_lt.mpr (List.le_trans (List.not_lt.mp e2) (List.not_lt.mp f2))⟩
noncomputable def IsT (h:Heap) (v:Value) (n:Int) (c:List Nat):Prop:=∃a t w u e,v=.ref a∧h.get? a=some (seqObj "tuple" #[.int n t,.str w u] e)∧w.cps.toList=c
theorem IsT.key {h:Heap}{v:Value}{n:Int}{c:List Nat}(k:IsT h v n c):keyT h v=(n,c):=by
 obtain⟨a,t,w,u,e,rfl,ho,rfl⟩:=k
 unfold keyT;dsimp only;rw[ho]
section
variable {prog:Program}{w:World}{A:Around}{E:Value→Shared→Prop}{s:Shared}
theorem Zg1 {a b:Str}{t u:Tok}{Q:Bool→Shared→Prop}(h:Q (decide (a.cps.toList<b.cps.toList)) s):wpAny (model prog w) A (oneLt' false (.str a t) (.str b u)) Q E s:=by
 rw[oneLt'_eq]
 simp only[YCD,if_false]
 refine YAA (wpAny_richCompare_same (typeIs_str s a t) (typeIs_str s b u) slot_str_lt (call_str_lt ⟨(fun z=>nomatch z),?_⟩))
 exact YCH h
theorem Zjm:PureC (model prog w) A E s (fun p=>∃n c,IsT s.heap p.1 n c) (ltT s.heap) (tuples' true):=by
 rintro st ⟨x,p⟩ ⟨y,r⟩ Q hk ⟨n,c,hx⟩ ⟨m,d,hy⟩ q
 have e:ltT s.heap (x,p) (y,r)=ltP (n,c) (m,d):=by unfold ltT;rw[hx.key,hy.key]
 rw[e]at q
 obtain⟨a,t,v,u,ep,rfl,ho,rfl⟩:=hx
 obtain⟨b,t2,v2,u2,ep2,rfl,ho2,rfl⟩:=hy
 rw[lt'_eq]
 refine YAL (YDK ?_)
 rw[hk,Zfe]
 refine YAL (wpS_lift (YBz (YAA (listItems_at ho rfl (YAA (listItems_at ho2 rfl ?_))))))
 show wpAny _ _ (forIn [((Value.int n t,Value.int m t2),0),((Value.str v u,Value.str v2 u2),1)] _ _ >>= _) _ _ _
 rw[YBs]
 refine YAA (YAA (YAA (wpAny_eqBool_int ?_)))
 by_cases hnm:n=m
 ·subst hnm
  rw[YAJ (by simp)]
  refine YAD ?_
  dsimp only
  rw[YBs]
  refine YAA (YAA (eqBool_str ?_))
  by_cases hv:v=v2
  ·subst hv
   rw[YAJ (by simp)]
   refine YAD ?_
   dsimp only
   rw[YDY]
   refine YAD ?_
   dsimp only
   refine YAD ⟨rfl,YAV ?_⟩
   have:ltP (n,v.cps.toList) (n,v.cps.toList)=false:=by unfold ltP;simp[List.lt_irrefl]
   rw[this]at q
   simpa using q
  ·rw[YAO (by simpa using hv)]
   refine YAA (Zg1 (YAD (YAD ?_)))
   dsimp only
   refine YAD ⟨rfl,YAV ?_⟩
   have:ltP (n,v.cps.toList) (n,v2.cps.toList)=decide (v.cps.toList<v2.cps.toList):=by unfold ltP;simp
   rw[this]at q
   exact q
 ·rw[YAO (by simpa using hnm)]
  refine YAA (oneLt_int (YAD (YAD ?_)))
  dsimp only
  refine YAD ⟨rfl,YAV ?_⟩
  have:ltP (n,v.cps.toList) (m,v2.cps.toList)=decide (n<m):=by unfold ltP;simp[hnm]
  rw[this]at q
  exact q
end
section
variable {prog:Program}{w:World}{A:Around}{E:Value→Shared→Prop}{s:Shared}
theorem Zcc:∀ {vs:List Value} {Q:List (Option Value)→Shared→Prop},(∀v∈vs,∃n c,IsT s.heap v n c) →
  (∀us:List Value,us.length=vs.length→(∀u∈us,∃n t,u=.int n t)→Q (us.map some) s)→wpAny (model prog w) A (vs.mapM firstOfTuple') Q E s
 | [],Q,_,q=>by rw[List.mapM_nil];exact YAD (q [] rfl (by simp))
 | v::vs,Q,h,q=>by
  obtain⟨n,c,a,t,x,u,e,rfl,ho,rfl⟩:=h v (by simp)
  rw[List.mapM_cons]
  refine YAA ?_
  show wpAny _ _ (do
   if (←typeOf (.ref a)) != .type "tuple" then return none
   return (←Builtin.List.listItems (.ref a))[0]?) _ _ _
  refine YAA (wpAny_typeOf_ref ho ?_)
  rw[YAJ (show ¬((Value.type "tuple" != Value.type "tuple")=true) by decide)]
  refine YAA (listItems_at ho rfl (YAD ?_))
  refine YAA (Zcc (fun v hv=>h v (by simp[hv])) fun us hl hu=>YAD ?_)
  refine q (.int n t::us) (by simp[hl]) fun u hu'=>?_
  rcases YAK.mp hu' with rfl | hu'
  ·exact⟨n,t,rfl⟩
  ·exact hu u hu'
theorem ZfP {vs:List Value}{Q:SortKind→Shared→Prop}(hv:∀v∈vs,∃n c,IsT s.heap v n c)(hne:vs≠[])(q:Q (tuples' true) s):wpAny (model prog w) A (keyKind' vs.toArray) Q E s:=by
 rw[keyKind'_eq,List.mapM_toArray,map_eq_pure_bind,bind_assoc]
 refine YAA (Zcc hv fun us hl hu=>?_)
 rw[pure_bind,YAO (by simp)]
 refine YAA (YBo ?_)
 have hI:IntsAre us (us.map numOf):=intsAre_map us hu
 have e1:((us.map some).toArray.filterMap id)=us.toArray:=by simp
 rw[e1,oneTypeOnly'_eq,List.mapM_toArray,mapM_typeOf_ints hI]
 cases us with
 | nil=>
  cases vs with
  | nil=>exact absurd rfl hne
  | cons v vs=>simp at hl
 | cons u us=>
  simp only[map_pure,pure_bind]
  have h0:(List.map (fun _=>Value.type "int") (u::us)).toArray[0]?=some (Value.type "int"):=by simp
  have hall:((List.map (fun _=>Value.type "int") (u::us)).toArray.all fun z=>z == Value.type "int")=true:=by
   rw[List.all_toArray,List.all_map,YBE]
   exact fun _ _=>rfl
  rw[h0]
  simp only[hall,if_true,pure_bind]
  exact YAD q
end
theorem ZgT (a g:Addr):Builtin.«list.sort» ⟨[.ref a],[(Str.ofString "key",.ref g)]⟩=(do
  let its ←Builtin.List.listItems (.ref a)
  Builtin.List.listUpdate (.ref a) fun _=>#[]
  let be ←seqEpoch a
  let hd ←newTuple its.toList
  let ks ←newList []
  holding [hd,ks] do
   rule "list.sort.key"
   for x in its do
    match ←(call (.ref g) [x]).attempt with
    | .ok k=>Builtin.List.listUpdate ks (·.push k)
    | .error e=>
     rule "list.sort.key-raised"
     let md ←Builtin.List.listItems ks
     Builtin.List.listUpdate ks fun _=>#[]
     letGo md.toList.reverse [e]
     Builtin.List.listUpdate (.ref a) fun _=>its
     throw e
   let kys ←Builtin.List.listItems ks
   let kind ←if its.size<2 then pure general' else keyKind' kys
   let ((),v) ←(if its.size<2 then pure () else sortRuns').run (SortSt.mk' kind (kys.zip its) #[] 7 none)
   Builtin.List.listUpdate ks fun _=>#[]
   letGo ((arrOf v).map (·.1)).toList (failedOf v).toList
   let tch:=(←seqEpoch a) != be
   Builtin.List.listUpdate (.ref a) fun _=>(arrOf v).map (·.2)
   if let some e:=failedOf v then rule "list.sort.comparison-raised";throw e
   if tch then rule "list.sort.modified";raiseError "ValueError" "list modified during sort"
   ret .none):=rfl
noncomputable def Kp (h g:Heap):Prop:=∀b o,h.get? b=some o→g.get? b=some o
noncomputable def KeyCall (M:Model) (A:Around) (g:Addr) (vs:List Value) (kf:Value→Int×List Nat) (s:Shared):Prop:=
 ∀(E:Value→Shared→Prop) (s':Shared) (v:Value) (Q:Value→Shared→Prop),v∈vs→Kp s.heap s'.heap→s'.gens=s.gens→s'.os=s.os →
  (∀(s2:Shared) (k:Value),Kp s'.heap s2.heap→s2.gens=s'.gens→s2.os=s'.os→IsT s2.heap k (kf v).1 (kf v).2→Q k s2)→wpAny M A (call (.ref g) [v]) Q E s'
theorem IsT.kp {h g:Heap}{v:Value}{n:Int}{c:List Nat}(k:IsT h v n c)(q:Kp h g):IsT g v n c:=by
 obtain⟨a,t,w,u,e,h1,h2,h3⟩:=k
 exact⟨a,t,w,u,e,h1,q _ _ h2,h3⟩
theorem IsT.up {h:Heap} {v:Value} {n:Int} {c:List Nat} {K:Addr} {xs:Array Value} {m:Nat} {f:Obj→Obj} (k:IsT h v n c) (hK:h.get? K=some (seqObj "list" xs m)):IsT (h.update K f) v n c:=by
 obtain⟨a,t,w,u,e,h1,h2,h3⟩:=k
 refine⟨a,t,w,u,e,h1,?_,h3⟩
 rw[(YAd h K f).2 a ?_]
 ·exact h2
 ·rintro rfl
  rw[h2]at hK
  have:=congrArg Obj.cls (Option.some.inj hK)
  exact absurd (show Value.type "tuple"=Value.type "list" from this) (by decide)
noncomputable def KeysAre (h:Heap) (kf:Value→Int×List Nat) (ks vs:List Value):Prop:=ks.length=vs.length∧∀(i:Nat) (k v:Value),ks[i]?=some k→vs[i]?=some v→IsT h k (kf v).1 (kf v).2
section
variable {prog:Program}{w:World}{A:Around}{E:Value→Shared→Prop}{s:Shared}
theorem Zii {g K a:Addr}{vs:List Value}{kf:Value→Int×List Nat}{oa:Obj}{Q:PUnit→Shared→Prop}{er:Value→Sem (ForInStep PUnit)}(hc:KeyCall (model prog w) A g vs kf s)(hK0:s.heap.get? K=none)(ha0:a≠K)(hN:vs.length≤sizeLine)
  (q:∀(s2:Shared) ks n,Kp s.heap s2.heap→s2.gens=s.gens→s2.os=s.os→s2.heap.get? K=some (seqObj "list" ks.toArray n)→KeysAre s2.heap kf ks vs→s2.heap.get? a=some oa→Q ⟨⟩ s2):
  ∀(l dn ks:List Value) (s':Shared) (n:Nat),vs=dn++l→Kp s.heap s'.heap→s'.gens=s.gens→s'.os=s.os→s'.heap.get? K=some (seqObj "list" ks.toArray n)→KeysAre s'.heap kf ks dn→s'.heap.get? a=some oa →
   wpAny (model prog w) A (forIn l PUnit.unit fun x _=>do
    match ←(call (.ref g) [x]).attempt with
    | .ok k=>do
     Builtin.List.listUpdate (.ref K) (·.push k)
     pure (ForInStep.yield PUnit.unit)
    | .error e=>er e) Q E s'
 | [],dn,ks,s',n,hv,h1,h2,h3,h4,h5,h6=>by
  rw[YBt]at hv
  subst hv
  rw[YDY]
  exact YAD (q s' ks n h1 h2 h3 h4 h5 h6)
 | x::l,dn,ks,s',n,hv,h1,h2,h3,h4,h5,h6=>by
  rw[YBs]
  refine YAA (YAA (YBz (hc _ s' x _ (by rw[hv];simp) h1 h2 h3 fun s2 k k1 k2 k3 k4=>?_)))
  have hlen:ks.length<vs.length:=by rw[h5.1,hv];simp
  have hK2:=k1 _ _ h4
  refine YAA (listUpdate_at hK2 rfl (YAD ?_) (hsz:=by rw[YAI];omega) (hsz2:=by rw[Array.size_push,YAI];omega))
  dsimp only
  have sb:=YAd s2.heap K (Obj.mapSeq fun z=>z.push k)
  refine Zii hc hK0 ha0 hN q l (dn++[x]) (ks++[k]) _ _ (by rw[hv];simp) ?_ (k2.trans h2) (k3.trans h3) (by
   have:=get?_update_seq hK2 (fun z=>z.push k)
   rw[List.push_toArray]at this
   exact this) ?_ ?_
  ·intro b o hb
   refine(sb.2 b ?_).trans (k1 b o (h1 b o hb))
   rintro rfl
   rw[hK0]at hb;cases hb
  ·refine⟨by simp[h5.1],fun i k' v' e1 e2=>?_⟩
   by_cases hi:i<ks.length
   ·rw[YAi hi]at e1
    rw[YAi (by rw[←h5.1];exact hi)]at e2
    exact((h5.2 i k' v' e1 e2).kp k1).up hK2
   ·have hi2:i=ks.length:=by
     have:=(YAc.mp e1).1
     simp at this;omega
    subst hi2
    rw[YAg (YAQ _),Nat.sub_self]at e1
    rw[h5.1,YAg (YAQ _),Nat.sub_self]at e2
    cases e1;cases e2
    exact k4.up hK2
  ·exact(sb.2 a ha0).trans (k1 a oa h6)
end
section
variable {prog:Program}{w:World}{A:Around}{E:Value→Shared→Prop}{s s0:Shared}
theorem Zfw {h:Heap}{kf:Value→Int×List Nat}{ks vs:List Value}(hk:KeysAre h kf ks vs){p:Keyed}(hp:p∈ks.zip vs):keyT h p.1=kf p.2∧∃n c,IsT h p.1 n c:=by
 obtain⟨i,hi,rfl⟩:=YCt hp
 rw[List.length_zip]at hi
 have h1:i<ks.length:=by omega
 have h2:i<vs.length:=by omega
 have:=hk.2 i ks[i] vs[i] (YAM h1) (YAM h2)
 rw[List.getElem_zip]
 exact⟨this.key,_,_,this⟩
theorem ZgS {a g:Addr}{vs:List Value}{kf:Value→Int×List Nat}{n:Nat}{P:Fin→Shared→Prop}(hc:KeyCall (model prog w) A g vs kf s0)(hb:Kp s0.heap s.heap)(hg:s.gens=s0.gens)(hos:s.os=s0.os)(ha0:s0.heap.get? a=none)
  (ho:s.heap.get? a=some (seqObj "list" vs.toArray n)) (hN:vs.length≤sizeLine)
  (h:∀(s':Shared) (us:List Value) (e:Nat),Kp s0.heap s'.heap→s'.gens=s0.gens→s'.os=s0.os→s'.heap.get? a=some (seqObj "list" us.toArray e)→us.Perm vs→us.Pairwise (fun x y=>ltP (kf y) (kf x)=false)→P (.done (.ret .none)) s'):
  wpAny (model prog w) A (Builtin.«list.sort» ⟨[.ref a],[(Str.ofString "key",.ref g)]⟩) P E s:=by
 have hlt:a<s.heap.objs.size:=YAH ho
 have up:=get?_update_seq ho (fun _=>#[])
 generalize hep:(if (#[]:Array Value).size == vs.toArray.size then n else n+1)=ep at up
 obtain⟨h1,hh1⟩:∃h1,h1=s.heap.update a (Obj.mapSeq fun _=>#[]):=⟨_,rfl⟩
 have k1:Kp s0.heap h1:=by
  intro b o q
  rw[hh1,(YAd s.heap a _).2 b ?_]
  ·exact hb b o q
  ·rintro rfl;rw[ha0]at q;cases q
 rw[←hh1]at up
 obtain⟨K,hK⟩:∃K,K=(h1.push (seqObj "tuple" vs.toArray 0)).objs.size:=⟨_,rfl⟩
 obtain⟨h3,hh3⟩:∃h3,h3=(h1.push (seqObj "tuple" vs.toArray 0)).push (seqObj "list" #[] 0):=⟨_,rfl⟩
 have k3:Kp h1 h3:=fun b o q=>by rw[hh3];exact YAB _ (YAB _ q)
 have oK:h3.get? K=some (seqObj "list" #[] 0):=by rw[hh3,hK];exact YAG _ rfl
 have nK:s0.heap.get? K=none:=by
  cases z:s0.heap.get? K with
  | none=>rfl
  | some o=>
   have:=YAH (k1 _ _ z)
   rw[hK,size_push']at this
   exact absurd this (YDJ.mpr (YCc _))
 have aK:a≠K:=by
  rintro rfl
  have h8:=YAH up
  rw[hK,size_push']at h8
  exact absurd h8 (YDJ.mpr (YCc _))
 subst hK
 rw[ZgT]
 refine YAA (listItems_at ho rfl (YAA (listUpdate_at ho rfl ?_ (hsz:=by rw[YAI];exact hN))))
 rw[←hh1]
 refine YAA (seqEpoch_at up rfl (YAA (wpAny_newTuple (YAA (wpAny_newList (YBU ?_))))))
 refine YAA (YBo ?_)
 rw[List.forIn_toArray]
 show wpAny _ _ _ _ _ { s with heap:=(h1.push (seqObj "tuple" vs.toArray 0)).push (seqObj "list" #[] 0) }
 rw[←hh3]
 refine YAA (Zii hc nK aK hN ?_ vs [] [] { s with heap:=h3 } 0 rfl (fun b o q=>k3 b o (k1 b o q)) hg hos oK ⟨rfl,fun i k v e _=>by simp at e⟩ (k3 a _ up))
 intro s2 ks m j1 j2 j3 j4 j5 j6
 dsimp only
 refine YAA (listItems_at j4 rfl ?_)
 have fin:∀v:SortSt,failedOf v=none→((arrOf v).map (·.2)).toList.Perm vs→((arrOf v).map (·.2)).toList.Pairwise (fun x y=>ltP (kf y) (kf x)=false) →
   wpAny (model prog w) A (do
    Builtin.List.listUpdate (.ref (h1.push (seqObj "tuple" vs.toArray 0)).objs.size) fun _=>#[]
    letGo ((arrOf v).map (·.1)).toList (failedOf v).toList
    let tch:=(←seqEpoch a) != ep
    Builtin.List.listUpdate (.ref a) fun _=>(arrOf v).map (·.2)
    if let some e:=failedOf v then rule "list.sort.comparison-raised";throw e
    if tch then rule "list.sort.modified";raiseError "ValueError" "list modified during sort"
    ret .none) P E s2:=by
  intro v f1 f2 f3
  have hl:=j5.1
  refine YAA (listUpdate_at j4 rfl (YAA (wpAny_letGo ?_)) (hsz:=by rw[YAI];omega))
  have sb:=YAd s2.heap (h1.push (seqObj "tuple" vs.toArray 0)).objs.size (Obj.mapSeq fun _=>#[])
  have a1:(s2.heap.update (h1.push (seqObj "tuple" vs.toArray 0)).objs.size (Obj.mapSeq fun _=>#[])).get? a=some (seqObj "list" #[] ep):=(sb.2 a aK).trans j6
  refine YAA (seqEpoch_at a1 rfl (YAA (listUpdate_at a1 rfl ?_ (hsz2:=by
   have:=f2.length_eq
   rw[YAN]at this
   omega))))
  rw[f1,bne_self_eq_false]
  obtain⟨out,hout⟩:∃out,out=(arrOf v).map (·.2):=⟨_,rfl⟩
  rw[←hout]at f2 f3 ⊢
  have a2:=get?_update_seq a1 (fun _=>out)
  generalize (if out.size == (#[]:Array Value).size then ep else ep+1)=e5 at a2
  have e3:out.toList.toArray=out:=YCl
  refine YAD (h _ out.toList e5 ?_ j2 j3 (by rw[e3];exact a2) f2 f3)
  intro b o q
  refine((YAd _ a _).2 b ?_).trans ((sb.2 b ?_).trans (j1 b o q))
  ·rintro rfl;rw[ha0]at q;cases q
  ·rintro rfl;rw[nK]at q;cases q
 have zs:(ks.toArray.zip vs.toArray)=(ks.zip vs).toArray:=by simp
 have zm:((ks.zip vs).map (·.2))=vs:=List.map_snd_zip (by rw[j5.1];exact YAQ _)
 by_cases h2:vs.toArray.size<2
 ·rw[YAO h2,YAO h2]
  refine YAA (YAD ?_)
  rw[StateT.run_pure]
  refine YAA (YAD ?_)
  refine fin (SortSt.mk' general' (ks.toArray.zip vs.toArray) #[] 7 none) rfl ?_ ?_
  ·show ((ks.toArray.zip vs.toArray).map (·.2)).toList.Perm vs
   rw[zs,Array.toList_map,zm]
  ·show ((ks.toArray.zip vs.toArray).map (·.2)).toList.Pairwise _
   rw[zs,Array.toList_map,zm]
   match vs,h2 with
   | [],_=>exact List.Pairwise.nil
   | [x],_=>exact List.pairwise_singleton _ _
   | _::_::_,h2=>simp at h2;omega
 ·rw[YAJ h2,YAJ h2]
  have hne:ks≠[]:=by
   intro e
   have:=j5.1
   rw[e]at this
   rw[YAI,←this]at h2
   simp at h2
  refine YAA (ZfP (fun v hv=>?_) hne ?_)
  ·obtain⟨i,hi,rfl⟩:=YCt hv
   have h2:i<vs.length:=by rw[←j5.1];exact hi
   exact⟨_,_,j5.2 i ks[i] vs[i] (YAM hi) (YAM h2)⟩
  ·refine YAA (YBF (ZhH (a0:=ks.zip vs) (st:=SortSt.mk' (tuples' true) (ks.toArray.zip vs.toArray) #[] 7 none) (Q:=fun _ v=>(arrOf v).toList.Perm (ks.zip vs)∧(arrOf v).toList.Pairwise (Le (ltT s2.heap))∧failedOf v=none)
    (Zk7 _) Zjm (fun u hu=>(Zfw j5 hu).2) rfl rfl rfl (by show (ks.toArray.zip vs.toArray).toList=_;rw[zs]) fun v p1 p2 p3=>⟨p1,p2,p3⟩) ?_ fun _ _ e=>e)
   rintro⟨⟨⟩,v⟩ s3 ⟨rfl,p1,p2,p3⟩
   refine fin v p3 ?_ ?_
   ·rw[Array.toList_map]
    have:=p1.map (fun p:Keyed=>p.2)
    rw[zm]at this
    exact this
   ·rw[Array.toList_map,YBi]
    refine p2.imp_of_mem fun {x y} hx hy e=>?_
    have e1:=(Zfw j5 (p1.mem_iff.mp hx)).1
    have e2:=(Zfw j5 (p1.mem_iff.mp hy)).1
    have e':ltP (keyT s3.heap y.1) (keyT s3.heap x.1)=false:=e
    rw[e1,e2]at e'
    exact e'
end
section
variable {X:Cx}{k:Nat}{f C:Addr}{fd:FuncData}{ps:List Str}{sp:Sp}{dvs:List V}{ds:List Value}{x m:Str}{p pos apos:Pos}{e o:Expr}{es:List Expr}{ta:TE}{t:TA}
theorem ZhP {c:Expr}{a b:List Stmt}{tc:TT}{t u:TSx}(hc:PT X.nox c tc)(ha:PSsx X a t)(hb:PSsx X b u):PSx X (.If c a b pos) (sIfx tc t u):=by
 intro pins s σ H D Ex I h
 refine wpAny_If (YBF (hc pins s σ H _ (I.wish _) h) (fun d s1 ⟨H1,I1,q1⟩=>?_) fun _ _ z=>False.elim z)
 cases d with
 | true=>exact ha pins s1 σ H1 D Ex I1.unwish q1
 | false=>exact hb pins s1 σ H1 D Ex I1.unwish q1
end
def EN:XK:=fun _ _ _=>False
theorem Zbt {X:Cx}:ZbO (CXr X.prog X.w) X EN:=fun _ _ _ _ _ _ _ ⟨_,_,_,_,_,_,_,_,_,_,_,_,_,_,_,z⟩=>z.elim
section
variable {X:Cx}
end
section
variable {X:Cx}{pins:List (Addr×Obj)}{σ:St}{H:Hp}{s:Shared}
end
theorem Zpo {P:Program}{w:World}{k:Key}{u:Value}(h:(ZaI P w).is k u=true):RelV (kV k) u:=by
 cases k with
 | inl i=>
  have h':(intKind P w).is i u=true:=h
  cases u<;>first | (exact absurd h' YAC) | skip
  rename_i j t
  have e:(i == j)=true∨(j == i)=true:=by first | exact .inl h' | exact .inr h'
  rcases e with e | e
  ·exact⟨t,by rw[beq_iff_eq.mp e]⟩
  ·exact⟨t,by rw[beq_iff_eq.mp e]⟩
 | inr x=>
  have h':(strKind P w).is x u=true:=h
  cases u<;>first | (exact absurd h' YAC) | skip
  rename_i j t
  have e:(x == j)=true∨(j == x)=true:=by first | exact .inl h' | exact .inr h'
  rcases e with e | e
  ·exact⟨t,by rw[beq_iff_eq.mp e]⟩
  ·exact⟨t,by rw[beq_iff_eq.mp e]⟩
noncomputable def Itd (o:Obj)(kvs:List (Key×V))(a:Addr):It:=
 ⟨fun i H=>H a=some (.frz o (.dK kvs))∧i<kvs.length,fun i H x H'=>H'=H∧∃p,kvs[i]?=some p∧x=kV p.1,fun i H=>H a=some (.frz o (.dK kvs))∧kvs.length≤i⟩
section
variable {X:Cx}{tg:Expr}
def Thw (a:Addr)(P:Hp→Prop)(H':Hp):Prop:=∃o kvs,H' a=some (.frz o (.dK kvs))∧P (upd H' a (.dK kvs))
noncomputable def thD (a:Addr)(D:Ends):Ends:={ nx:=fun σ H=>Thw a (D.nx σ) H,rt:=fun v H=>Thw a (D.rt v) H,bk:=fun σ H=>Thw a (D.bk σ) H,ct:=fun σ H=>Thw a (D.ct σ) H }
end
section
variable {g:TG}{tb:TS}{D:Ends}{σ:St}{H:Hp}{o:Obj}{kvs:List (Key×V)}{a:Addr}
end
theorem Zdd:∀ {vs:List V} {us:List Value},vs.length=us.length→(∀(i:Nat) (x:V) (u:Value),vs[i]?=some x→us[i]?=some u→RelV x u)→Vals vs us
 | [],[],_,_=>.nil
 | [],_::_,h,_=>by simp at h
 | _::_,[],h,_=>by simp at h
 | x::vs,u::us,h,r=>.cons (r 0 x u rfl rfl) (Zdd (by simpa using h) fun i y v h1 h2=>r (i+1) y v h1 h2)
section
variable {prog:Program}{w:World}{A:Around}{E:Value→Shared→Prop}{s:Shared}
end
def kTx (l:List Nat):Key:=.inr ⟨l.toArray⟩
section
variable {X:Cx}
end
noncomputable def wordsOf (l:List Nat)(n:Nat):List (List Nat):=Za4 (ddl ((List.range (l.length+1-n)).map fun i=>(l.drop i).take n))
theorem Zcb {x:List Nat}:∀(ls acc:List (List Nat)),x∈ls.foldl addT acc↔x∈acc∨x∈ls
 | [],acc=>by simp
 | y::ls,acc=>by
  rw[YCd,Zcb ls]
  have h:x∈addT acc y↔x∈acc∨x=y:=by
   unfold addT
   split
   ·rename_i h
    constructor
    ·exact .inl
    ·rintro (q | q)
     ·exact q
     ·rw[q];exact h
   ·rw[YAe,YAS]
  rw[h,YAK,or_assoc]
theorem ZfL {x:List Nat}{ls:List (List Nat)}:x∈ddl ls↔x∈ls:=by
 unfold ddl
 rw[Zcb]
 simp
theorem Zh3 (ls:List (List Nat)):(ddl ls).Nodup:=by rw[←Zex];exact ZcB _
end L2
namespace L2
open PySem PySem.Spec PyProof.Rows
open PySem.W (Frag)
def AtW (l w:List Nat)(i:Nat):Prop:=i+w.length≤l.length∧(l.drop i).take w.length=w
def Inf (w l:List Nat):Prop:=∃i,AtW l w i
theorem ZbQ (l w:List Nat)(i:Nat):StrLaws.At ⟨l.toArray⟩ ⟨w.toArray⟩ (⟨l.toArray⟩:Str).length i↔AtW l w i:=by
 have e1:(⟨l.toArray⟩:Str).length=l.length:=ZcY l
 have e2:(⟨w.toArray⟩:Str).length=w.length:=ZcY w
 unfold StrLaws.At AtW Builtin.Str.subAt
 rw[e1,e2]
 refine and_congr_right fun h=>?_
 have e3:l.toArray.extract i (i+w.length)=((l.drop i).take w.length).toArray:=by
  apply Array.ext'
  simp only[List.extract_toArray,List.extract_eq_take_drop]
  have:i+w.length-i=w.length:=by omega
  rw[this]
 show (l.toArray.extract i (i+w.length) == w.toArray)=true↔_
 rw[e3,beq_iff_eq]
 exact⟨fun z=>by simpa using congrArg Array.toList z,fun z=>by rw[z]⟩
theorem AtW.nil (l:List Nat):AtW l [] 0:=⟨by simp,by simp⟩
theorem Inf.nil (l:List Nat):Inf [] l:=⟨0,AtW.nil l⟩
theorem Inf.len {w l:List Nat}(h:Inf w l):w.length≤l.length:=by obtain⟨i,h,_⟩:=h;omega
theorem Inf.mem {w l:List Nat}(h:Inf w l){c:Nat}(hc:c∈w):c∈l:=by
 obtain⟨i,_,h⟩:=h
 rw[←h]at hc
 exact YAZ (YAY hc)
theorem Inf.refl (l:List Nat):Inf l l:=⟨0,by simp,by simp⟩
theorem AtW.trans {u v w:List Nat}{i j:Nat}(h1:AtW v u i)(h2:AtW w v j):AtW w u (j+i):=by
 obtain⟨a1,b1⟩:=h1
 obtain⟨a2,b2⟩:=h2
 refine⟨by omega,?_⟩
 have e:(w.drop (j+i)).take u.length=((((w.drop j).take v.length).drop i).take u.length):=by
  rw[List.drop_take,YCn,YCT]
  congr 1
  omega
 rw[e,b2,b1]
theorem Inf.trans {u v w:List Nat}(h1:Inf u v)(h2:Inf v w):Inf u w:=by
 obtain⟨i,h1⟩:=h1
 obtain⟨j,h2⟩:=h2
 exact⟨_,h1.trans h2⟩
theorem Zgy (w:List Nat):Inf w.tail w:=by
 cases w with
 | nil=>exact Inf.nil _
 | cons c w=>exact⟨1,by simp;omega,by simp⟩
theorem Zgz (w:List Nat):Inf w.dropLast w:=⟨0,by simp,by rw[YBb,YBI,YDE]⟩
theorem Zlk {v w:List Nat}(h:Inf v w)(hl:v.length<w.length):Inf v w.dropLast∨Inf v w.tail:=by
 obtain⟨i,h1,h2⟩:=h
 cases i with
 | zero=>
  refine .inl ⟨0,by rw[YBI];omega,?_⟩
  rw[YBb]at h2 ⊢
  rw[YDE,YCT]
  have:min v.length (w.length-1)=v.length:=by omega
  rw[this];exact h2
 | succ i=>
  refine .inr ⟨i,by rw[List.length_tail];omega,?_⟩
  rw[List.drop_tail];exact h2
theorem Zka {v w:List Nat}(h:Inf v w)(hl:w.length≤v.length):v=w:=by
 obtain⟨i,h1,h2⟩:=h
 have hi:i=0:=by omega
 subst hi
 rw[YBb,YAq hl]at h2
 exact h2.symm
theorem Za2 {l x:List Nat}{n:Nat}(hn:n≤l.length+1):x∈wordsOf l n↔x.length=n∧Inf x l:=by
 unfold wordsOf
 rw[(ZaJ _).mem_iff,ZfL,YBX]
 constructor
 ·rintro⟨i,hi,rfl⟩
  have hi:=YBA.mp hi
  have hl:((l.drop i).take n).length=n:=by rw[YAb,YAm];omega
  exact⟨hl,i,by omega,by rw[hl]⟩
 ·rintro⟨rfl,i,h1,h2⟩
  exact⟨i,YBA.mpr (by omega),h2⟩
theorem Zfx (l:List Nat)(n:Nat):(wordsOf l n).length≤l.length+1:=by
 unfold wordsOf
 rw[(ZaJ _).length_eq]
 have:∀(ls acc:List (List Nat)),(ls.foldl addT acc).length≤acc.length+ls.length:=by
  intro ls
  induction ls with
  | nil=>intro acc;simp
  | cons x ls ih=>
   intro acc
   rw[YCd]
   refine YAP (ih _) ?_
   unfold addT
   split<;>simp<;>omega
 have h:=this ((List.range (l.length+1-n)).map fun i=>(l.drop i).take n) []
 rw[YAE,YBV]at h
 unfold ddl
 simp only[List.length_nil]at h
 omega
noncomputable def Zm3 (sh st:List (List Nat))(h:List Nat)(c:Nat):Bool:=decide ((h++[c]).tail∈sh)&&!decide (h++[c]∈st)
noncomputable def Zhc (sh st:List (List Nat))(m h:List Nat):List (List Nat):=(m.filter (Zm3 sh st h)).map fun c=>h++[c]
noncomputable def Zfd (sh st:List (List Nat))(m:List Nat):List (List Nat):=sh.flatMap (Zhc sh st m)
noncomputable def Zfb (l m:List Nat)(i:Nat):List (List Nat):=(List.range i).flatMap fun k=>Zfd (wordsOf l k) (wordsOf l (k+1)) m
noncomputable def ZaN (l m:List Nat):List (List Nat):=Zfb l m (l.length+1)
theorem Zie (sh st:List (List Nat))(m h:List Nat):(Zhc sh st m h).length≤m.length:=by unfold Zhc;rw[YAE];exact YAt _ _
theorem Zcf {α β:Type}{f:α→List β}{b:Nat}(h:∀x,(f x).length≤b):∀l:List α,(l.flatMap f).length≤l.length*b
 | []=>by simp
 | x::l=>by
  rw[List.flatMap_cons,YAF,YAn,Nat.succ_mul]
  have:=h x
  have:=Zcf h l
  omega
theorem Zig (sh st:List (List Nat))(m:List Nat):(Zfd sh st m).length≤sh.length*m.length:=Zcf (Zie sh st m) sh
theorem Zdq {sh st:List (List Nat)}{m w:List Nat}:w∈Zfd sh st m↔∃h c,h∈sh∧c∈m∧w=h++[c]∧w.tail∈sh∧w∉st:=by
 unfold Zfd Zhc Zm3
 simp only[List.mem_flatMap,YBX,YCL,YAR,Bool.not_eq_true',decide_eq_true_iff,decide_eq_false_iff_not]
 constructor
 ·rintro⟨h,hh,c,⟨hc,h1,h2⟩,rfl⟩;exact⟨h,c,hh,hc,rfl,h1,h2⟩
 ·rintro⟨h,c,hh,hc,rfl,h1,h2⟩;exact⟨h,hh,c,⟨hc,h1,h2⟩,rfl⟩
structure Miss (l w:List Nat):Prop where
 ne:w≠[]
 init:Inf w.dropLast l
 tail:Inf w.tail l
 no:¬Inf w l
theorem ZaV {l m w:List Nat}:w∈ZaN l m↔Miss l w∧∃c∈m,w.getLast?=some c:=by
 unfold ZaN Zfb
 rw[List.mem_flatMap]
 constructor
 ·rintro⟨k,hk,hw⟩
  have hk:=YBA.mp hk
  obtain⟨h,c,h1,hc,rfl,h3,h4⟩:=Zdq.mp hw
  rw[Za2 (by omega)]at h1 h3
  refine⟨⟨by simp,by simpa using h1.2,h3.2,fun z=>h4 ((Za2 (by omega)).mpr ⟨by simp[h1.1],z⟩)⟩,c,hc,by simp⟩
 ·rintro⟨⟨ne,hi,ht,hn⟩,c,hc,hl⟩
  have e:w.dropLast++[c]=w:=by
   rw[YCR ne]at hl
   have h:=YDI ne
   rw[Option.some.inj hl]at h
   exact h
  have hlen:w.dropLast.length=w.length-1:=YBI
  have h1:1≤w.length:=YBj.mpr ne
  refine⟨w.length-1,YBA.mpr (by have:=hi.len;omega),Zdq.mpr ⟨w.dropLast,c,?_,hc,e.symm,?_,?_⟩⟩
  ·rw[Za2 (by have:=hi.len;omega)];exact⟨hlen,hi⟩
  ·rw[Za2 (by have:=hi.len;omega)];exact⟨List.length_tail,ht⟩
  ·rw[Za2 (by have:=hi.len;omega)];exact fun z=>hn z.2
theorem same_upd3' {H H2:Hp}{e:Addr}{o':HO}(h:H e=none)(s:Same H H2):Same H (upd H2 e o'):=fun b u hb=>by
 have:b≠e:=fun z=>by rw[z,h]at hb;cases hb
 rw[Zae this];exact s _ _ hb
section
variable {tt:TT}{te:TE}{Q:VK}{τ0:St}{H:Hp}{K:Frag}{a:Addr}{xs:List V}
theorem CompRun.listL (b:Nat→Bool)(f:Nat→V)(hz:xs.length≤100000)(hx:SqL K H a xs)
  (ht:∀i H' Q' (h:i<xs.length),Same H H'→(∀H'',Same H' H''→Q' (b i) H'')→tt (τ0.set 0 (some (xs.getD i .non))) H' Q')
  (he:∀i H' Q' (h:i<xs.length),b i=true→Same H H'→(∀H'',Same H' H''→Q' (f i) H'')→te (τ0.set 0 (some (xs.getD i .non))) H' Q')
  (hQ:∀p H',Same H H'→H p=none→H' p=some (.lst (((List.range xs.length).filter b).map f))→Q (.ref p) H'):CompRun (Itl K a) τ0 (ZcZ 0) tt te H Q:=by
 intro acc ha
 refine⟨fun i m τ H2=>i≤xs.length∧m=xs.length-i∧(∀w:Option V,τ.set 0 w=τ0.set 0 w)∧Same H H2∧H2 acc=some (.lst (((List.range i).filter b).map f)),⟨xs.length,YAz _,rfl,fun _=>rfl,Zaz ha,Zad⟩,?_⟩
 rintro i m τ H2 ⟨hi,rfl,hτ,hs,hacc⟩
 by_cases hlt:i<xs.length
 ·refine .inr ⟨⟨xs,xs[i],hs.seq hx,by simp[hlt]⟩,fun τ' H'=>(∀w:Option V,τ'.set 0 w=τ0.set 0 w)∧Same H H'∧H' acc=some (.lst (((List.range (i+1)).filter b).map f)),fun τ' H' q=>⟨xs.length-(i+1),by omega,hlt,rfl,q⟩,fun x H3 y=>?_⟩
  obtain⟨rfl,y⟩:=y
  have ex:x=xs.getD i .non:=by rw[YAU,y xs (hs.seq hx)];rfl
  subst ex
  show tt (τ.set 0 (some (xs.getD i .non))) _ _
  rw[hτ]
  have hτ':∀w:Option V,(τ0.set 0 (some (xs.getD i .non))).set 0 w=τ0.set 0 w:=fun w=>by rw[List.set_set]
  refine ht i _ _ hlt hs fun H4 s4=>?_
  cases hb:b i with
  | false=>
   rw[YAJ YAC]
   refine⟨hτ',hs.trans s4,?_⟩
   rw[s4 _ _ hacc,YBq,YCZ]
   simp[hb]
  | true=>
   rw[YAO rfl]
   refine he i _ _ hlt hb (hs.trans s4) fun H5 s5=>⟨_,s5 _ _ (s4 _ _ hacc),?_,hτ',same_upd3' ha ((hs.trans s4).trans s5),?_⟩
   ·rw[YAE]
    have:=YAt b (List.range i)
    rw[YBV]at this
    rw[sizeLine_eq];omega
   ·rw[Zad,YBq,YCZ]
    simp[hb]
 ·have e:i=xs.length:=by omega
  subst e
  exact .inl ⟨⟨xs,hs.seq hx,YAQ _⟩,hQ acc H2 hs ha hacc⟩
theorem CompRun.tups (P:Nat→List V→Prop)(hz:xs.length≤100000)(hx:SqL K H a xs)
  (he:∀i H' Q' (h:i<xs.length),Same H H'→(∀p vs H'',Same H' H''→H'' p=some (.tup vs)→P i vs→Q' (.ref p) H'')→te (τ0.set 0 (some (xs.getD i .non))) H' Q')
  (hQ:∀p ys H',Same H H'→H p=none→H' p=some (.lst ys)→ys.length=xs.length→(∀i y,ys[i]?=some y→∃t vs,y=.ref t∧H' t=some (.tup vs)∧P i vs)→Q (.ref p) H'):CompRun (Itl K a) τ0 (ZcZ 0) tAll te H Q:=by
 intro acc ha
 refine⟨fun i m τ H2=>i≤xs.length∧m=xs.length-i∧(∀w:Option V,τ.set 0 w=τ0.set 0 w)∧Same H H2∧∃ys,H2 acc=some (.lst ys)∧ys.length=i∧∀i y,ys[i]?=some y→∃t vs,y=.ref t∧H2 t=some (.tup vs)∧P i vs,
  ⟨xs.length,YAz _,rfl,fun _=>rfl,Zaz ha,[],Zad,rfl,fun i y h=>by simp at h⟩,?_⟩
 rintro i m τ H2 ⟨hi,rfl,hτ,hs,ys,hacc,hlen,hall⟩
 by_cases hlt:i<xs.length
 ·refine .inr ⟨⟨xs,xs[i],hs.seq hx,by simp[hlt]⟩,fun τ' H'=>(∀w:Option V,τ'.set 0 w=τ0.set 0 w)∧Same H H'∧∃ys,H' acc=some (.lst ys)∧ys.length=i+1∧∀i y,ys[i]?=some y→∃t vs,y=.ref t∧H' t=some (.tup vs)∧P i vs,fun τ' H' q=>⟨xs.length-(i+1),by omega,hlt,rfl,q⟩,fun x H3 y=>?_⟩
  obtain⟨rfl,y⟩:=y
  have ex:x=xs.getD i .non:=by rw[YAU,y xs (hs.seq hx)];rfl
  subst ex
  unfold ZcZ tAll
  dsimp only
  rw[YAO rfl,hτ]
  have hτ':∀w:Option V,(τ0.set 0 (some (xs.getD i .non))).set 0 w=τ0.set 0 w:=fun w=>by rw[List.set_set]
  refine he i _ _ hlt hs fun p vs H5 s5 hp hP=>⟨ys,s5 _ _ hacc,by rw[hlen,sizeLine_eq];omega,hτ',same_upd3' ha (hs.trans s5),ys++[.ref p],Zad,by simp[hlen],fun j z hz'=>?_⟩
  have ne:∀ {t:Addr} {us:List V},H5 t=some (.tup us)→t≠acc:=fun h e=>by rw[e,s5 _ _ hacc]at h;cases h
  by_cases hj:j<ys.length
  ·rw[YAi hj]at hz'
   obtain⟨t,us,rfl,h1,h2⟩:=hall j z hz'
   have h1':=s5 _ _ h1
   exact⟨t,us,rfl,by rw[Zae (ne h1')];exact h1',h2⟩
  ·rw[YAg (by omega)]at hz'
   have hj':j-ys.length=0:=by
    rcases Nat.eq_zero_or_pos (j-ys.length) with h | h
    ·exact h
    ·rw[YBO (by simp;omega)]at hz';cases hz'
   rw[hj']at hz'
   cases hz'
   have:j=i:=by omega
   exact⟨p,vs,rfl,by rw[Zae (ne hp)];exact hp,by rw[this];exact hP⟩
 ·have e:i=xs.length:=by omega
  subst e
  exact .inl ⟨⟨xs,hs.seq hx,YAQ _⟩,hQ acc ys H2 hs ha hacc hlen hall⟩
end
noncomputable def infB (w l:List Nat):Bool:=(List.range (l.length+1)).any fun i=>decide (i+w.length≤l.length)&&decide ((l.drop i).take w.length=w)
theorem Zc8 {w l:List Nat}:infB w l=true↔Inf w l:=by
 unfold infB Inf AtW
 rw[List.any_eq_true]
 constructor
 ·rintro⟨i,_,h⟩
  rw[YAR,decide_eq_true_eq,decide_eq_true_eq]at h
  exact⟨i,h⟩
 ·rintro⟨i,h1,h2⟩
  refine⟨i,YBA.mpr (by omega),?_⟩
  rw[YAR,decide_eq_true_eq,decide_eq_true_eq]
  exact⟨h1,h2⟩
theorem ZgA {w l:List Nat}:infB w l=false↔¬Inf w l:=by rw[←Zc8,Bool.not_eq_true]
theorem ZgD (w l:List Nat):(!(Builtin.Str.occurrences ⟨l.toArray⟩ ⟨w.toArray⟩ 0 (⟨l.toArray⟩:Str).length 1).isEmpty)=infB w l:=by
 rw[YBQ,StrLaws.found_iff,Zc8]
 exact⟨fun ⟨i,h⟩=>⟨i,(ZbQ l w i).mp h⟩,fun ⟨i,h⟩=>⟨i,(ZbQ l w i).mpr h⟩⟩
section
variable {X:Cx}
theorem Zgt:OpR X (compareOp .In) (fun x y H Q=>∃w l,x=tx w∧y=tx l∧Q (.bl (infB w l)) H):=by
 rintro pins s σ H x y v u Q I rx ry ⟨w,l,rfl,rfl,q⟩
 refine ZeX pins s σ H _ _ v u Q I rx ry ⟨_,_,rfl,rfl,?_⟩
 rw[ZgD];exact q
theorem Zdn:OpR X (compareOp .NotIn) (fun x y H Q=>∃w l,x=tx w∧y=tx l∧Q (.bl (!infB w l)) H):=by
 rintro pins s σ H x y v u Q I rx ry ⟨w,l,rfl,rfl,q⟩
 refine ZcU pins s σ H _ _ v u Q I rx ry ⟨_,_,rfl,rfl,?_⟩
 rw[ZgD];exact q
theorem upper_one:∀k,k<26→Unicode.upperOf (97+k)=[65+k]:=by decide +kernel
theorem ZdA {α β:Type}(g:α→β):∀l:List α,(l.map fun x=>[g x]).flatten=l.map g
 | []=>rfl
 | x::l=>by rw[YAf,YBk,ZdA g l];rfl
theorem ZiP {l:List Nat}(h:∀c∈l,97≤c∧c≤122):Txt.upper ⟨l.toArray⟩=⟨(l.map (· - 32)).toArray⟩:=by
 unfold Txt.upper placed
 have e:(l.toArray.mapIdx fun i c=>(Unicode.upperOf c).toArray)=(l.map fun c=>#[c-32]).toArray:=by
  apply Array.ext'
  rw[Array.toList_mapIdx]
  apply YCq (by simp)
  intro i h1 h2
  have hi:i<l.length:=by simpa using h2
  obtain⟨b1,b2⟩:=h l[i] (YBh hi)
  have:=upper_one (l[i]-97) (by omega)
  have e1:97+(l[i]-97)=l[i]:=by omega
  have e2:65+(l[i]-97)=l[i]-32:=by omega
  rw[e1,e2]at this
  simp[this]
 show (⟨(l.toArray.mapIdx fun i c=>(Unicode.upperOf c).toArray).flatten⟩:Str)=_
 rw[e]
 congr 1
 apply Array.ext'
 rw[Array.toList_flatten]
 have:((l.map fun c=>#[c-32]).toArray.toList.map Array.toList)=l.map fun c=>[c-32]:=by simp
 simp only[YBZ]
 rw[show (l.map (Array.toList ∘ fun c=>#[c-32]))=l.map fun c=>[c-32] from rfl,ZdA]
theorem Zh4:MtM X "str.upper" (fun x vs H Q=>∃l,x=tx l∧vs=[]∧l.length≤1000∧(∀c∈l,97≤c∧c≤122)∧Q (tx (l.map (· - 32))) H):=by
 rintro pins s σ H x vs v us Q I rx rv ⟨l,rfl,rfl,hz,hc,q⟩
 obtain⟨t,rfl⟩:=rx
 cases rv
 have hfit:(⟨l.toArray⟩:Str).length≤5592405:=by rw[ZcY];omega
 refine PyProof.Rows.SCL.upper hfit fun hle=>?_
 rw[ZiP hc]
 exact⟨tx (l.map (· - 32)),H,I.tok _,⟨s.toks,rfl⟩,q⟩
end
end L2
namespace L2
open PySem PySem.Spec PyProof.Rows
section
variable {X:Cx}
end
section
variable {X:Cx}{pins:List (Addr×Obj)}{σ:St}{H:Hp}{s:Shared}{a b:Addr}{kvs more:List (Key×V)}{A:Around}{E:Value→Shared→Prop}
end
section
variable {prog:Program}{w:World}{A:Around}{E:Value→Shared→Prop}{s:Shared}{l I S:Addr}{ns:List Int}{vs:List Value}{R:Result→Shared→Prop}{Q:Value→Shared→Prop}{d:Value}
end
section
variable {X:Cx}{e:Expr}{ta:TA}{p p2 pos kpos:Pos}
end
noncomputable def kfT:Value→Int×List Nat
 | .str x _=>((x.length:Nat),x.cps.toList)
 | _=>(0,[])
noncomputable abbrev Zdt (x:Str)(p1 p2 p3 p4 p5:Pos)(k:Nat):Expr:=.Tuple [.Call (.Name "len" p1) [.Name x p2] [] p3,.Name x p4] k p5
structure LamSc (scope:Scope)(x:Str):Prop where
 kind:scope.kind=.function
 co:scope.isCoroutine=false
 gen:scope.isGenerator=false
 loc:scope.names.lookup x=some .local
 glb:scope.names.lookup ("len":Str)=some .globalImplicit
 nodbg:(x == ("__debug__":Str))=false
section
variable {prog:Program}{w:World}{A:Around}{s:Shared}
theorem ZiI (f:Str→Option NameKind){x:Str}{v:Value}(h:f x=some .local):bindL f [(x,v)] (fun _=>none) x=some v:=by
 unfold bindL bindL
 rw[YAO h,YAO rfl]
theorem Zlc {g:Addr}{o:Obj}{name qual x:Str}{params:Arguments}{scope:Scope}{pm cv ctv:Value}{mg mb:Str→Option Value}{vs:List Value}{p1 p2 p3 p4 p5:Pos}{k:Nat}
  (ho:s.heap.get? g=some o) (hod:o.data=.func (PySem.W.kla_fn name qual params (Zdt x p1 p2 p3 p4 p5 k) scope [] pm cv ctv)) (hcd:s.heap.CodeRec cv qual) (S:LamSc scope x)
  (hb:∀(s:Shared) (u:Value),BindsTo s (PySem.W.kla_fn name qual params (Zdt x p1 p2 p3 p4 p5 k) scope [] pm cv ctv) ⟨[u],[]⟩ [(x,u)]) (hroom:A.depth<recursionLimit) (hlim:s.heap.NoLimit)
  (hg:s.heap.Ns mainGlobals mg) (hgl:mg "len"=none) (hbn:s.heap.Ns builtinsNs mb) (hbb:mb "len"=bootBuiltins "len") (hv:∀v∈vs,∃y t,v=.str y t∧y.length≤sizeLine):KeyCall (model prog w) A g vs kfT s:=by
 intro E s' v Q hvm hk hgen hos q
 obtain⟨y,t,rfl,hy⟩:=hv v hvm
 have hs:sizeLine=16777216:=sizeLine_eq
 refine YBx (PySem.W.kla_callFunE hroom (hk _ _ ho) hod S.co S.gen rfl (let ⟨c,oc,ws,tq,e1,e2,r⟩:=hcd;⟨c,oc,ws,tq,e1,hk _ _ e2,r⟩) (hb _ _ _ _ _ _ ?_))
 refine wpAny_newFunctionEnv_cells S.kind (fun z hz=>.inl (by rw[YAS.mp hz];exact S.loc)) fun env he s1 X=>?_
 refine⟨(hlim.keeps hk).keeps X.toInCall.keep,PySem.W.kla_codeExpr ?_⟩
 subst he
 obtain⟨h1,tk1,e1⟩:=X.toInCall.same
 have kp1:Kp s'.heap s1.heap:=X.toInCall.keep
 have lnm:∀(pp:Pos) (B:Around) (E2:Value→Shared→Prop) (s2:Shared) (Q2:Value→Shared→Prop),Kp s1.heap s2.heap→Q2 (.str y t) s2→wpAny (model prog w) B (eval (.Name x pp) (newEnv scope s'.heap.objs.size mainGlobals (cellsFrom (s'.heap.objs.size+1) scope.names []) (qual++".<locals>.") (some g) cv none builtinsNs)) Q2 E2 s2:=fun pp B E2 s2 Q2 k2 q2=>
  wpAny_Name (wpAny_loadName_local S.kind S.loc (X.toInCall.ns.keeps k2) (by
   exact ZiI _ S.loc) q2) S.nodbg
 refine wpAny_Tuple_spliced ?_
 show wpAny _ _ (spliced ((false,eval (.Call (.Name "len" p1) [.Name x p2] [] p3) _)::backTo p5 (starEach [.Name x p4] _))) _ _ s1
 refine YDW ?_
 refine YBJ (Calls.Name_function_global S.kind S.glb (Calls.loadGlobal_builtin (v:=.builtin "len") (show s1.heap.Ns mainGlobals mg from(hg.keeps hk).keeps kp1) hgl (show s1.heap.Ns builtinsNs mb from(hbn.keeps hk).keeps kp1) (hbb.trans rfl) ?_) (by decide))
 refine YDC ?_ rfl rfl
 show wpAny _ _ (spliced ((false,eval (.Name x p2) _)::backTo p3 (starEach [] _))) _ _ s1
 refine YDW (lnm p2 _ _ _ _ (fun _ _ e=>e) (Calls.spliced_nil ?_))
 refine len_str (by omega) ?_
 show wpAny _ _ (spliced ((false,eval (.Name x p4) _)::backTo p5 (starEach [] _))) _ _ _
 refine YDW (lnm p4 _ _ _ _ (fun _ _ e=>e) (Calls.spliced_nil ?_))
 refine⟨by rw[hs];show 2≤16777216;decide,?_⟩
 rw[e1]
 refine q _ _ (fun b o e=>YAB _ (by have:=kp1 b o e;rw[e1]at this;exact this)) rfl rfl ⟨_,_,_,_,_,rfl,YAG _ rfl,rfl⟩
end
theorem ZdK (a v:Value):argsOk "sorted" ⟨[a],[(Str.ofString "key",v)]⟩:=by unfold argsOk;kernel_rfl
theorem ZcC (a v:Value):argsOk "list.sort" ⟨[a],[(Str.ofString "key",v)]⟩:=by unfold argsOk;kernel_rfl
section
variable {prog:Program}{w:World}{A:Around}{E:Value→Shared→Prop}{s:Shared}
theorem ZfF {a g:Addr} {its:List Value} {n:Nat} {kf:Value→Int×List Nat} {Q:Value→Shared→Prop} (eo:s.heap.get? a=some (seqObj "list" its.toArray n)) (hc:KeyCall (model prog w) A.in1.in1 g its kf s) (hN:its.length≤sizeLine)
  (h:∀(s':Shared) (r:Addr) (us:List Value) (e:Nat),s.heap.get? r=none→Kp s.heap s'.heap→s'.gens=s.gens→s'.os=s.os→s'.heap.get? r=some (seqObj "list" us.toArray e)→us.Perm its→us.Pairwise (fun x y=>ltP (kf y) (kf x)=false)→Q (.ref r) s'):
  wpAny (model prog w) A (call (.builtin "sorted") [.ref a] [(Str.ofString "key",.ref g)]) Q E s:=by
 refine call_function_entry_kw kind_sorted plain_sorted entry_sorted (ZdK _ _) ?_
 unfold Builtin.«sorted»
 refine YAA (m:=checkCount "sorted" 1 1 _) (YAD ?_)
 refine YAA (collect_list (PySem.IsL.isList eo) ?_ hN)
 have sb:=YAd (s.heap.push (seqObj "list" #[] 0)) s.heap.objs.size (Obj.mapSeq (·++its.toArray))
 have k1:Kp s.heap ((s.heap.push (seqObj "list" #[] 0)).update s.heap.objs.size (Obj.mapSeq (·++its.toArray))):=fun b o e=>(sb.2 b (YAX (YAH e))).trans (YAB _ e)
 generalize ((s.heap.push (seqObj "list" #[] 0)).update s.heap.objs.size (Obj.mapSeq (·++its.toArray)))=g1 at k1 ⊢
 have nw:s.heap.get? g1.objs.size=none:=by
  cases z:s.heap.get? g1.objs.size with
  | none=>rfl
  | some o=>exact absurd (YAH (k1 _ _ z)) (YAv _)
 refine YAA (wpAny_newList ?_ hN)
 have hoL:(g1.push (seqObj "list" its.toArray 0)).get? g1.objs.size=some (seqObj "list" its.toArray 0):=YAG _ rfl
 refine YAA (YBU (wpAny_call_entry_kw slot_list_sort ⟨_,hoL,rfl⟩ entry_list_sort (ZgS (s0:=s) hc (fun b o e=>YAB _ (k1 b o e)) rfl rfl nw hoL hN fun s' us e k2 e1 e2 e3 e4 e5=>⟨_,rfl,?_⟩) (ZcC _ _)))
 exact YAD ⟨_,rfl,h s' _ us e nw k2 e1 e2 e3 e4 e5⟩
end
def BefW (a b:List Nat):Prop:=a.length<b.length∨(a.length=b.length∧a<b)
theorem Ze5:∀ {a b:List Nat} {x y:List Nat},a.length=b.length→a<b→a++x<b++y
 | [],[],_,_,_,h=>by cases h
 | [],_::_,_,_,e,_=>by simp at e
 | _::_,[],_,_,e,_=>by simp at e
 | c::a,d::b,x,y,e,h=>by
  rw[YCr,YCr]
  cases h with
  | rel h=>exact List.Lex.rel h
  | cons h=>exact List.Lex.cons (Ze5 (by simpa using e) h)
theorem Zh7:∀(a:List Nat) {c d:Nat},c<d→a++[c]<a++[d]
 | [],_,_,h=>List.Lex.rel h
 | _::a,_,_,h=>List.Lex.cons (Zh7 a h)
theorem Zh6:∀(a b:List Nat),a<b∨a=b∨b<a
 | [],[]=>.inr (.inl rfl)
 | [],_::_=>.inl .nil
 | _::_,[]=>.inr (.inr .nil)
 | c::a,d::b=>by
  rcases Nat.lt_trichotomy c d with h | h | h
  ·exact .inl (List.Lex.rel h)
  ·subst h
   rcases Zh6 a b with h | h | h
   ·exact .inl (List.Lex.cons h)
   ·exact .inr (.inl (by rw[h]))
   ·exact .inr (.inr (List.Lex.cons h))
  ·exact .inr (.inr (List.Lex.rel h))
theorem ZeE (l:List Nat)(n:Nat):(wordsOf l n).Pairwise (· < ·):=by
 have h1:(wordsOf l n).Pairwise (fun a b=>leT a b=true):=Zbe _
 have h2:(wordsOf l n).Nodup:=(ZaJ _).nodup_iff.mpr (by rw[←Zex];exact ZcB _)
 refine(h1.and h2).imp ?_
 rintro a b ⟨x,y⟩
 have x':¬b<a:=by simpa [leT] using x
 rcases Zh6 a b with z | z | z
 ·exact z
 ·exact absurd z y
 ·exact absurd z x'
theorem ZaT {l m:List Nat}(hm:m.Pairwise (· < ·)):(ZaN l m).Pairwise BefW:=by
 unfold ZaN Zfb
 have len:∀k w,k≤l.length→w∈Zfd (wordsOf l k) (wordsOf l (k+1)) m→w.length=k+1:=fun k w hk hw=>by
  obtain⟨h,c,h1,_,rfl,_⟩:=Zdq.mp hw
  rw[Za2 (by omega)]at h1
  rw[YAF,h1.1];rfl
 rw[List.pairwise_flatMap]
 refine⟨fun k hk=>?_,?_⟩
 ·have hk:=YBA.mp hk
  unfold Zfd
  rw[List.pairwise_flatMap]
  refine⟨fun h hh=>?_,?_⟩
  ·unfold Zhc
   rw[YBi]
   exact(hm.filter _).imp fun {c d} hcd=>.inr ⟨by simp,Zh7 h hcd⟩
  ·refine List.Pairwise.imp_of_mem ?_ (ZeE l k)
   intro a b ha hb hab x hx y hy
   have la:=((Za2 (l:=l) (by omega)).mp ha).1
   have lb:=((Za2 (l:=l) (by omega)).mp hb).1
   unfold Zhc at hx hy
   obtain⟨c,_,rfl⟩:=YBX.mp hx
   obtain⟨d,_,rfl⟩:=YBX.mp hy
   exact .inr ⟨by simp[la,lb],Ze5 (by rw[la,lb]) hab⟩
 ·refine List.Pairwise.imp_of_mem ?_ List.pairwise_lt_range
  intro i j hi hj hij x hx y hy
  have hi:=YBA.mp hi
  have hj:=YBA.mp hj
  exact .inl (by rw[len i x (by omega) hx,len j y (by omega) hy];omega)
theorem Zda {a:List Nat}:¬BefW a a:=fun h=>h.elim (fun h=>YAv _ h) fun h=>List.lt_irrefl _ h.2
theorem Ze1 {α:Type}[DecidableEq α]:∀(l m:List α),l.Nodup→(∀x∈l,x∈m)→l.length≤m.length
 | [],m,_,_=>YAz _
 | x::l,m,nd,h=>by
  have hx:=h x YAa
  have nd':=YBr.mp nd
  have:=Ze1 l (m.erase x) nd'.2 fun y hy=>(List.mem_erase_of_ne (fun e=>by rw[e]at hy;exact nd'.1 hy)).mpr (h y (YAW _ hy))
  rw[List.length_erase_of_mem hx]at this
  have pos:0<m.length:=List.length_pos_of_mem hx
  rw[YAn]
  omega
end L2
namespace L2
open PySem PySem.Spec PyProof.Rows PySem.W
noncomputable def Zeo:HO→Bool
 | .tbl _=>true
 | _=>false
def SameL (H H':Hp):Prop:=∀b o,H b=some o→Zeo o=false→H' b=some o
theorem SameL.refl (H:Hp):SameL H H:=fun _ _ e _=>e
theorem SameL.trans {H H1 H2:Hp}(a:SameL H H1)(b:SameL H1 H2):SameL H H2:=fun c o e n=>b c o (a c o e n) n
theorem Same.l {H H':Hp}(s:Same H H'):SameL H H':=fun b o e _=>s b o e
noncomputable def ZdP (c:Addr)(q:Str):HO:=.ext fun h=>h.CodeRec (.ref c) q
theorem ZjI {P:Program}{w:World}{H:Hp}{h:Heap}{c:Addr}{q:Str}(x:h.CodeRec (.ref c) q):ObjOk P w H h c (ZdP c q):=by
 obtain⟨c',o,vs,t,e,e1,r⟩:=id x
 cases e
 refine⟨x,⟨o,e1⟩,fun h1 h2 x1 k=>?_⟩
 obtain⟨c',o,vs,t,e,e1,r⟩:=x1
 cases e
 exact⟨c,o,vs,t,rfl,k _ e1,r⟩
def TblOk (H:Hp)(P:Addr)(pos:Pos)(q:Str):Prop:=∃ps,H P=some (.tbl ps)∧TriplesOk ps.toList∧(codeAmong pos ps.toList=none∨∃c,codeAmong pos ps.toList=some (.ref c)∧H c=some (ZdP c q))
theorem TblOk.same {H H':Hp}{P:Addr}{pos:Pos}{q:Str}(t:TblOk H P pos q)(s:Same H H'):TblOk H' P pos q:=by
 obtain⟨ps,e,tr,h⟩:=t
 exact⟨ps,s _ _ e,tr,h.imp id fun ⟨c,e1,e2⟩=>⟨c,e1,s _ _ e2⟩⟩
theorem tbl_new {P:Addr}{pos:Pos}{q:Str}{H:Hp}(h:H P=some (.tbl #[])):TblOk H P pos q:=⟨#[],h,trivial,.inl rfl⟩
theorem ZdF {pos pos':Pos}{c:Value}(hne:pos'.line≠pos.line∨pos'.col≠pos.col)(l:List Value)(h:TriplesOk l):codeAmong pos' (l++[rawInt pos.line,rawInt pos.col,c])=codeAmong pos' l:=by
 fun_induction TriplesOk l with
 | case1=>
  simp only[List.nil_append,codeAmong,rawInt]
  rw[YAJ]
  intro z
  simp only[YAR,beq_iff_eq]at z
  rcases hne with n | n
  ·exact n (by have:=z.1;omega)
  ·exact n (by have:=z.2;omega)
 | case2 a t b u x rest ih=>
  simp only[YCr,codeAmong]
  rw[ih h]
 | case3 l h1 h2=>exact h.elim
def SameT (pos:Pos)(H H':Hp):Prop:=SameL H H'∧∀(P':Addr) (pos':Pos) (q':Str),(pos'.line≠pos.line∨pos'.col≠pos.col)→TblOk H P' pos' q'→TblOk H' P' pos' q'
theorem SameT.then {pos:Pos}{H H1 H2:Hp}(s:SameT pos H H1)(t:Same H1 H2):SameT pos H H2:=⟨s.1.trans t.l,fun P' p' q' n T=>(s.2 P' p' q' n T).same t⟩
structure LamEnv (base:Heap)(mg:Str→Option Value)(c P:Addr):Prop where
 hd:CodeHd base c P
 bm:base.BuiltinsAt mg P
section
variable {X:Cx}{pins:List (Addr×Obj)}{σ:St}{H:Hp}{s:Shared}
theorem Inv.table {P c':Addr}{ps more:Array Value}{q:Str}{h':Heap}{t':Nat}(I:Inv X pins σ H s)(hP:H P=some (.tbl ps))(hx:Heap.ExtBut P s.heap h')(hc:s.heap.objs.size≤c')(hr:h'.CodeRec (.ref c') q)(ht:h'.get? P=some (tabObj (ps++more))):
  Inv X pins σ (upd (upd H P (.tbl (ps++more))) c' (ZdP c' q)) { s with heap:=h',toks:=t' }:=by
 have fc:H c'=none:=I.hok.fresh hc
 have nPc:P≠c':=Zak hP fc
 have nt:∀ {b u},H b=some u→(∀ps,u≠.tbl ps)→b≠P:=fun e n z=>by rw[z,hP]at e;exact n _ (Option.some.inj e).symm
 have nc:∀ {b u},H b=some u→b≠c':=fun e=>Zak e fc
 have hz:∀ {b o},s.heap.get? b=some o→b≠c':=fun e z=>absurd (YAH e) (by rw[z];exact YDJ.mpr hc)
 have nn:∀ {b},H b=none→b≠P:=fun e z=>by rw[z,hP]at e;cases e
 refine I.call' (s':={ s with heap:=h',toks:=t' }) (ch:=[]) rfl ⟨fun b o e n _ _=>hx b o (nn n) e,fun b o e n _ _=>⟨o.slots,hx b o (nn n) e⟩,fun b o e n _=>?_,fun b o e _=>?_,fun b xs e=>?_,fun b o u e=>?_,fun b qs e=>?_⟩ (fun b u e=>?_) I.bare (fun b z=>by cases z)
 ·rw[Zae (hz e),Zae (nn n)];exact n
 ·by_cases z:b=P
  ·exact⟨_,by rw[z];exact ht⟩
  ·exact⟨o,hx b o z e⟩
 ·rw[Zae (nc e),Zae (nt e fun _ z=>by cases z)];exact e
 ·rw[Zae (nc e),Zae (nt e fun _ z=>by cases z)];exact e
 ·by_cases z:b=P
  ·subst z
   rw[hP]at e;cases e
   exact⟨more,by rw[Zae nPc,Zad]⟩
  ·exact⟨#[],by rw[Zae (nc e),Zae z,e];simp⟩
 ·by_cases z1:b=c'
  ·subst z1
   rw[Zad]at e;cases e
   exact ZjI hr
  ·rw[Zae z1]at e
   by_cases z2:b=P
   ·subst z2
    rw[Zad]at e;cases e
    exact ht
   ·rw[Zae z2]at e
    refine(I.hok b u e).stay (fun d v hd k=>?_) (fun d k=>?_) fun d xs k=>?_
    ·refine hx d v ?_ k
     rcases hd with rfl | hd
     ·exact z2
     ·exact nt hd fun _ z=>by cases z
    ·rw[Zae (nc k),Zae (nt k fun _ z=>by cases z)];exact k
    ·rw[Zae (nc k),Zae (nt k fun _ z=>by cases z)];exact k
theorem Ze9 {Q:Value→Shared→Prop}{E:Value→Shared→Prop}{c P:Addr}{pos:Pos}{params:Arguments}{body:Expr}{scope:Scope}{q:Str}{clos:List (Str×Addr)}(I:Inv X pins σ H s)(L:LamEnv X.base X.mg c P)(hcode:X.env.code=.ref c)(hcl:closureFor scope X.env=pure clos)(hdef:defaultsOf params X.env=([],[]))
  (hq:X.env.qual++"<lambda>"=q) (T:TblOk H P pos q)
  (h:∀(H1:Hp) (h':Heap) (tk:Nat) (c':Addr) (ctv:Value),SameT pos H H1→TblOk H1 P pos q→(∀b,H1 b=none→H b=none)→Inv X pins σ H1 { s with heap:=h',toks:=tk }→h'.CodeRec (.ref c') q→H1 c'=some (ZdP c' q)→Q (.ref h'.objs.size) { s with heap:=h'.push (kla_obj "<lambda>" q params body scope clos ((X.mg "__name__").getD .none) c' ctv),toks:=tk }):
  wpAny (model X.prog X.w) X.A (eval (.Lambda params body scope pos) X.env) Q E s:=by
 obtain⟨ps,hP,tr,hc⟩:=T
 have gP:s.heap.get? P=some (tabObj ps):=I.hok P _ hP
 have C:CodeHd s.heap c P:=L.hd.keeps I.bk
 have hg:s.heap.Ns mainGlobals X.mg:=I.mod.glob.keeps I.bk
 have hgP:mainGlobals≠P:=fun z=>by
  obtain⟨o,es,ep,e,hd,_⟩:=hg
  rw[z,gP]at e;cases e;cases hd
 have hbm:s.heap.BuiltinsAt X.mg P:=let ⟨bm,o,a1,a2,a3,a4,a5,r⟩:=L.bm;⟨bm,o,a1,a2,a3,a4,I.bk _ _ a5,r⟩
 refine kla_eval hdef ?_
 rw[hq]
 rcases hc with hn | ⟨c',hf,hc'⟩
 ·refine kla_makeFunction hcl I.ok.glob hg hcode C gP tr hn hgP hbm fun c' ctv h' tk hx hge hlt hrec htab=>?_
  have fc:H c'=none:=I.hok.fresh hge
  have J:=I.table (t':=tk) hP hx hge hrec htab
  have nPc:P≠c':=Zak hP fc
  have el:(ps++#[rawInt pos.line,rawInt pos.col,Value.ref c']).toList=ps.toList++[rawInt pos.line,rawInt pos.col,.ref c']:=by simp
  refine h _ _ _ c' ctv ⟨fun b o e n=>?_,fun P' pos' q' hne T'=>?_⟩ ⟨_,by rw[Zae nPc,Zad],by rw[el];exact TriplesOk_snoc _ _ _ _ tr,.inr ⟨c',by rw[el];exact codeAmong_snoc _ tr hn,Zad⟩⟩ (fun b e=>?_) J hrec Zad
  ·rw[Zae (Zak e fc),Zae (fun z=>by rw[z,hP]at e;cases e;cases n)];exact e
  ·obtain⟨ps',e1,t1,h1⟩:=T'
   have keep:∀d,H d=some (ZdP d q')→upd (upd H P (.tbl (ps++#[rawInt pos.line,rawInt pos.col,Value.ref c']))) c' (ZdP c' q) d=some (ZdP d q'):=fun d e=>by
    rw[Zae (Zak e fc),Zae (fun z=>by rw[z,hP]at e;cases e)];exact e
   by_cases z:P'=P
   ·subst z
    rw[hP]at e1;cases e1
    refine⟨_,by rw[Zae nPc,Zad],by rw[el];exact TriplesOk_snoc _ _ _ _ tr,?_⟩
    rw[el,ZdF hne _ tr]
    exact h1.imp id fun ⟨d,f1,f2⟩=>⟨d,f1,keep d f2⟩
   ·exact⟨ps',by rw[Zae (Zak e1 fc),Zae z];exact e1,t1,h1.imp id fun ⟨d,f1,f2⟩=>⟨d,f1,keep d f2⟩⟩
  ·by_cases z1:b=c'
   ·rw[z1];exact fc
   ·rw[Zae z1]at e
    by_cases z2:b=P
    ·rw[z2,Zad]at e;cases e
    ·rw[Zae z2]at e;exact e
 ·refine kla_makeFunctionHit hcl I.ok.glob hg hcode C gP tr hf hbm fun ctv h' tk hk hsz=>?_
  have hrec:s.heap.CodeRec (.ref c') q:=(I.hok c' _ hc').1
  exact h H _ _ c' ctv ⟨SameL.refl _,fun _ _ _ _ T=>T⟩ ⟨ps,hP,tr,.inr ⟨c',hf,hc'⟩⟩ (fun b e=>e) (I.kept (t':=tk) hk) (hrec.keeps hk) hc'
theorem Zic {Q:Value→Shared→Prop}{E:Value→Shared→Prop}{c P:Addr}{pos:Pos}{params:Arguments}{body:Expr}{scope:Scope}{q:Str}(I:Inv X pins σ H s)(L:LamEnv X.base X.mg c P)(hcode:X.env.code=.ref c)(hcl:closureFor scope X.env=pure [])(hdef:defaultsOf params X.env=([],[]))
  (hq:X.env.qual++"<lambda>"=q) (T:TblOk H P pos q)
  (h:∀(g:Addr) (H1:Hp) (s1:Shared) (cv ctv pm:Value),SameT pos H H1→TblOk H1 P pos q→(∀b,H1 b=none→H b=none)→Inv X pins σ H1 s1→s1.heap.get? g=some { cls:=.type "function",data:=.func (kla_fn "<lambda>" q params body scope [] pm cv ctv) }→s1.heap.CodeRec cv q→Q (.ref g) s1):
  wpAny (model X.prog X.w) X.A (eval (.Lambda params body scope pos) X.env) Q E s:=
 Ze9 I L hcode hcl hdef hq T fun H1 h' tk c' ctv st t1 fr J hrec _=>h _ H1 _ (.ref c') ctv _ st t1 fr (J.kept (t':=tk) fun b o e=>YAB _ e) (YAG _ rfl) (hrec.push _)
theorem Zjq {Q:Value→Shared→Prop}{E:Value→Shared→Prop}{c P:Addr}{pos:Pos}{params:Arguments}{body:Expr}{scope:Scope}{q:Str}(I:Inv X pins σ H s)(L:LamEnv X.base X.mg c P)(hcode:X.env.code=.ref c)(hcl:closureFor scope X.env=pure [])(hdef:defaultsOf params X.env=([],[]))
  (hq:X.env.qual++"<lambda>"=q) (T:TblOk H P pos q)
  (h:∀(g:Addr) (H1:Hp) (s1:Shared) (cv ctv pm:Value),SameL H H1→TblOk H1 P pos q→(∀b,H1 b=none→H b=none)→Inv X pins σ H1 s1→s1.heap.get? g=some { cls:=.type "function",data:=.func (kla_fn "<lambda>" q params body scope [] pm cv ctv) }→s1.heap.CodeRec cv q→Q (.ref g) s1):
  wpAny (model X.prog X.w) X.A (eval (.Lambda params body scope pos) X.env) Q E s:=
 Zic I L hcode hcl hdef hq T fun g H1 s1 cv ctv pm st=>h g H1 s1 cv ctv pm st.1
end
theorem Zhm:bootBuiltins "sorted"=some (.builtin "sorted"):=rfl
noncomputable def txV:Value→List Nat
 | .str x _=>x.cps.toList
 | _=>[]
theorem Zht:∀ {ws:List (List Nat)} {us:List Value},Vals (ws.map tx) us→ws=us.map txV∧(∀v∈us,∃y t,v=.str y t∧y.length=(txV v).length)
 | [],_,.nil=>⟨rfl,fun v hv=>by cases hv⟩
 | w::ws,_,.cons ⟨t,e⟩ r=>by
  obtain⟨h1,h2⟩:=Zht (ws:=ws) r
  subst e
  refine⟨by rw[YAf,←h1];simp[txV],fun v hv=>?_⟩
  rcases YAK.mp hv with rfl | hv
  ·exact⟨_,t,rfl,by simp[txV,Str.length]⟩
  ·exact h2 v hv
theorem ZdQ:∀(us:List Value),(∀v∈us,∃y t,v=.str y t)→Vals ((us.map txV).map tx) us
 | [],_=>.nil
 | v::us,h=>by
  obtain⟨y,t,rfl⟩:=h v YAa
  exact .cons ⟨t,by simp[txV]⟩ (ZdQ us fun u hu=>h u (YAW _ hu))
def ZjS (P:Addr)(lpos:Pos)(q:Str)(ta:TA):TE:=fun σ H Q=>ta σ H fun vs H1=>∃(a:Addr) (ws:List (List Nat)),vs=[.ref a]∧H1 a=some (.lst (ws.map tx))∧(∀w∈ws,w.length≤sizeLine)∧TblOk H1 P lpos q ∧
 ∀(ws':List (List Nat)) (r:Addr) (H2:Hp),ws'.Perm ws→ws'.Pairwise (fun a b=>¬BefW b a)→SameL H1 H2→TblOk H2 P lpos q→H1 r=none→H2 r=some (.lst (ws'.map tx))→Q (.ref r) H2
theorem Zk8 {a b:List Nat}:ltP ((b.length:Nat),b) ((a.length:Nat),a)=false↔¬BefW b a:=by
 rw[YCN,Ne,ZfM]
 unfold BefW
 dsimp only
 have e1:((b.length:Int)<(a.length:Int))↔b.length<a.length:=by omega
 have e2:((b.length:Int)=(a.length:Int))↔b.length=a.length:=by omega
 rw[e1,e2]
section
variable {X:Cx}{e:Expr}{ta:TA}{p pos kpos lpos p1 p2 p3 p4 p5:Pos}{k kk:Nat}{c P:Addr}{params:Arguments}{scope:Scope}{x q:Str}
theorem Zjc (hr:Room k X.A) (L:LamEnv X.base X.mg c P) (hcode:X.env.code=.ref c) (hg:Gl X "sorted") (hm:X.mg "sorted"=none) (hlen:X.mg "len"=none) (ha:PA X [e] ta) (hcl:closureFor scope X.env=pure []) (hdef:defaultsOf params X.env=([],[])) (hq:X.env.qual++"<lambda>"=q)
  (S:LamSc scope x) (hb:∀(s:Shared) (u pm cv ctv:Value),BindsTo s (kla_fn "<lambda>" q params (Zdt x p1 p2 p3 p4 p5 kk) scope [] pm cv ctv) ⟨[u],[]⟩ [(x,u)])
  (he:backTo pos (starEach [e] X.env)=(false,eval e X.env)::backTo pos (starEach [] X.env):=by rfl) (hpl:(backTo pos (starEach [e] X.env)).any (·.1)=false:=by rfl):
  PE X (.Call (.Name "sorted" p) [e] [⟨some "key",.Lambda params (Zdt x p1 p2 p3 p4 p5 kk) scope lpos,kpos⟩] pos) (ZjS P lpos q ta):=by
 intro pins s σ H Q I h
 refine YBJ (Zdu I hg hm Zhm ?_)
 refine PyProof.Rows.callWith_kw (thn (ha pos pins s σ H _ I h) fun us s1 ⟨vs,H1,I1,r1,q1⟩=>?_) he hpl
 obtain⟨a,ws,rfl,hH,hw,T,q⟩:=q1
 show wpAny _ _ (evalAll ((do let v ←eval (.Lambda params (Zdt x p1 p2 p3 p4 p5 kk) scope lpos) X.env;standAt pos;pure v)::[])) _ _ s1
 refine wpAny_evalAll_cons (YAA (Zjq I1 L hcode hcl hdef hq T fun g H2 s2 cv ctv pm sl T2 fr I2 ho hcd=>YAA (wpAny_standAt (YAD (wpAny_evalAll_nil ?_)))))
 obtain⟨u,rfl,ru⟩:=r1.one
 cases ru
 have hH2:=sl _ _ hH rfl
 obtain⟨hz,its,n,r,hlen',eo⟩:=I2.lstM hH2
 obtain⟨ew,hs⟩:=Zht r
 have hN:its.length≤sizeLine:=by rw[←r.length];exact hz
 obtain⟨mb,b1,b2⟩:=I2.mod.blt
 have key:=Zlc (prog:=X.prog) (w:=X.w) (A:=X.A.in1.in1) (vs:=its) ho rfl hcd S (fun s u=>hb s u pm cv ctv) (show X.A.depth<recursionLimit by have:=hr.dp;omega) (I2.mod.nolimit.keeps I2.bk) (I2.mod.glob.keeps I2.bk) hlen (b1.keeps I2.bk) (b2 _ (by decide)) (fun v hv=>by
  obtain⟨y,t,e1,e2⟩:=hs v hv
  exact⟨y,t,e1,by rw[e2];exact hw _ (by rw[ew];exact YCP hv)⟩)
 refine ZfF eo key hN fun s' r' us e nr kp g1 o1 er pm2 pw=>?_
 have hs2:∀v∈us,∃y t,v=.str y t∧y.length=(txV v).length:=fun v hv=>hs v (pm2.mem_iff.mp hv)
 have rv:Vals ((us.map txV).map tx) us:=ZdQ us fun v hv=>let ⟨y,t,e,_⟩:=hs2 v hv;⟨y,t,e⟩
 have hl2:us.length=its.length:=pm2.length_eq
 have fr':H1 r'=none:=fr _ (I2.hok.none_of nr)
 have J:=I2.laid2 (s':=s') (a:=r') (o:=.lst ((us.map txV).map tx)) o1 g1 kp nr ⟨by rw[YAE,YAE];omega,us,e,rv,er⟩
 have hr2:=I2.hok.none_of nr
 refine⟨.ref r',_,J,rfl,q (us.map txV) r' _ (by rw[ew];exact pm2.map _) ?_ (fun b o eb nb=>by rw[Zae (Zak (sl b o eb nb) hr2)];exact sl b o eb nb) (T2.same (Zaz hr2)) fr' Zad⟩
 rw[YBi]
 refine pw.imp_of_mem fun {y z} hy hz e=>?_
 rw[←Zk8]
 obtain⟨y1,t1,e1,e2⟩:=hs2 y hy
 obtain⟨z1,t2,e3,e4⟩:=hs2 z hz
 subst e1 e3
 have f1:kfT (.str y1 t1)=((((txV (.str y1 t1)).length:Nat):Int),txV (.str y1 t1)):=by rw[←e2];rfl
 have f2:kfT (.str z1 t2)=((((txV (.str z1 t2)).length:Nat):Int),txV (.str z1 t2)):=by rw[←e4];rfl
 rw[f1,f2]at e
 exact e
end
noncomputable def Znl (o:Obj):Bool:=match o.cls,o.data with
 | .none,.fields _=>true
 | _,_=>false
noncomputable def Zjj (K:Frag):Bool:=K.all fun p=>!Znl p.2
theorem Ze2 {K:Frag}(h:Zjj K=true){b:Addr}{o:Obj}(e:K.lookup b=some o):Znl o=false:=by
 unfold Zjj at h
 rw[YBE]at h
 have:∀(l:List (Addr×Obj)),l.lookup b=some o→(b,o)∈l:=fun l=>by
  induction l with
  | nil=>intro e;cases e
  | cons q r ih=>
   intro e
   obtain⟨b',o'⟩:=q
   rw[YBD]at e
   by_cases z:b=b'
   ·subst z
    simp at e
    subst e
    exact YAa
   ·have z':(b == b')=false:=by simpa using z
    rw[z']at e
    exact YAW _ (ih e)
 have:=h _ (this K e)
 simpa using this
structure TabOf (mg:Str→Option Value)(h:Heap)(n:Str)(c P:Addr):Prop where
 fn:∃a o fd,mg n=some (.ref a)∧h.get? a=some o∧o.data=.func fd∧fd.code=.ref c
 code:h.IsCode c P #[]
 tab:h.TableAt c P #[]
theorem TabOf.codeEq {mg:Str→Option Value}{h:Heap}{n:Str}{c P a:Addr}{o:Obj}{fd:FuncData}(t:TabOf mg h n c P)(e1:mg n=some (.ref a))(e2:h.get? a=some o)(e3:o.data=.func fd):fd.code=.ref c:=by
 obtain⟨a',o',fd',f1,f2,f3,f4⟩:=t.fn
 rw[e1]at f1;cases f1
 rw[e2]at f2;cases f2
 rw[e3]at f3;cases f3
 exact f4
theorem Zib {P:Program}{w:World}{K:PySem.W.Frag}{mg mb:Str→Option Value}{CX:CXT}{k:Nat}{fa a:Addr}{fd:FuncData}{x:Str}{sp:Sp}{s₁:Shared}{vs:List Value}{ns:List Int}{nms:List Str}{tb:Str→Addr×Addr}
  (KX:K.In s₁.heap) (hns:s₁.heap.Ns mainGlobals mg) (hb:s₁.heap.Ns builtinsNs mb) (hbb:∀x:Str,x≠"__name__"→mb x=bootBuiltins x) (hlim:s₁.heap.NoLimit) (hg:s₁.gens=#[])
  (ha:s₁.heap.get? a=some { cls:=.type "list",data:=.seq vs.toArray }) (hi:IntsAre vs ns) (hl:ns.length≤sizeLine) (hr:Room k callerA)
  (hT:∀n∈nms,TabOf mg s₁.heap n (tb n).1 (tb n).2) (hKt:Zjj K=true) (hbm:∃bm ob,mg "__builtins__"=some (.ref bm)∧bm≠builtinsNs∧s₁.heap.get? bm=some ob∧ob.cls=.type "module"∧ob.dict=some builtinsNs∧ob.data=.plain)
  (F:∀base:Heap,K.In base→base.Ns mainGlobals mg→(∀n∈nms,LamEnv base mg (tb n).1 (tb n).2)→FnOk P w K mg base CX k fa fd [x] sp) (hbind:∀(s:Shared) (u:Value),BindsTo s fd ⟨[u],[]⟩ [(x,u)])
  (hsp:∀H:Hp,(∀n∈nms,H (tb n).2=some (.tbl #[]))→SqL K H a (ns.map V.int)→sp [.ref a] H (fun v _=>v=.bl true) fun _ _ _=>False)
  (hCX:∀H e s',CX [] H s₁ (fun _ _ _=>False) e s'→False):
  codeAny (model P w) callerA (.call (.ref fa) ⟨[.ref a],[]⟩) (fun r s'=>r=.ok (.ret (.bool true))∧OldK s₁.heap s'.heap∧s'.os=s₁.os∧AllBare s'.gens) s₁:=by
 have rv:=Zde hi
 have lenV:=hi.length
 have hta:∀n∈nms,s₁.heap.get? (tb n).2=some (tabObj #[]):=fun n hn=>(hT n hn).tab.2
 have aP:∀n∈nms,(tb n).2≠a:=fun n hn z=>by
  have e:=hta n hn
  rw[z,ha]at e
  have:=congrArg Obj.cls (Option.some.inj e)
  exact absurd (show Value.type "list"=Value.none from this) (by simp)
 let isP:Addr→Prop:=fun b=>∃n∈nms,(tb n).2=b
 have core:∀H:Hp,SqL K H a (ns.map V.int)→HOk P w H s₁.heap→(∀b,H b≠none→(b=a∧∃o xs,H b=some (.frz o (.lst xs)))∨(isP b∧H b=some (.tbl #[])))→(∀b,isP b→H b=some (.tbl #[]))→(H a≠none→K.lookup a=none) →
   codeAny (model P w) callerA (.call (.ref fa) ⟨[.ref a],[]⟩) (fun r s'=>r=.ok (.ret (.bool true))∧OldK s₁.heap s'.heap∧s'.os=s₁.os∧AllBare s'.gens) s₁:=by
  intro H hS hok hA hPt hK
  have base_of:∀ {b:Addr} {o:Obj},s₁.heap.get? b=some o→H b=none→(hidT s₁.heap H).get? b=some o:=fun e n=>ZgB e n
  have noT:∀ {b:Addr} {o:Obj},s₁.heap.get? b=some o→o≠tabObj #[]→o.cls≠.type "list"→H b=none:=fun {b o} e n1 n2=>by
   cases q:H b with
   | none=>rfl
   | some u=>
    rcases hA b (by rw[q];simp) with⟨e',_⟩|⟨⟨n,hn,e'⟩,_⟩
    ·subst e'
     rw[ha]at e;cases e
     exact absurd rfl n2
    ·subst e'
     rw[hta n hn]at e;cases e
     exact absurd rfl n1
  have noA:∀ {b:Addr} {o:Obj} {es:Array DictEntry} {ep:Nat},s₁.heap.get? b=some o→o.data=.dict es ep→H b=none:=fun {b o es ep} e d=>by
   cases q:H b with
   | none=>rfl
   | some u=>
    rcases hA b (by rw[q];simp) with⟨e',_⟩|⟨⟨n,hn,e'⟩,_⟩
    ·subst e'
     rw[ha]at e;cases e
     have d':Data.seq vs.toArray _=Data.dict es ep:=d
     cases d'
    ·subst e'
     rw[hta n hn]at e;cases e
     cases d
  have nsK:∀ {b:Addr} {m:Str→Option Value},s₁.heap.Ns b m→(hidT s₁.heap H).Ns b m:=fun {b m} ⟨o,es,ep,e,d,r⟩=>⟨o,es,ep,base_of e (noA e d),d,r⟩
  have hKb:K.In (hidT s₁.heap H):=fun b o e=>base_of (KX b o e) (by
   cases q:H b with
   | none=>rfl
   | some u=>
    rcases hA b (by rw[q];simp) with⟨e',_⟩|⟨⟨n,hn,e'⟩,_⟩
    ·subst e'
     rw[hK (by rw[q];simp)]at e;cases e
    ·subst e'
     have e1:=KX _ _ e
     rw[hta n hn]at e1
     have e2:=Ze2 hKt e
     rw[←Option.some.inj e1]at e2
     cases e2)
  have hM:Mod K mg (hidT s₁.heap H):=⟨hKb,nsK hns,⟨mb,nsK hb,hbb⟩,let ⟨mc,h1,h2⟩:=hlim;⟨mc,nsK h1,h2⟩⟩
  have e0:Env0 P w K mg (hidT s₁.heap H) callerA [] s₁ H:=⟨rfl,hM,fun b o e=>Zh2 e,YCO (Zfh _ _),trivial,fun b hb=>absurd (show b∈([]:List Addr) from hb) (by simp),hok,.of_eq hg⟩
  have hL:∀n∈nms,LamEnv (hidT s₁.heap H) mg (tb n).1 (tb n).2:=fun n hn=>by
   obtain⟨bm,ob,b1,b2,b3,b4,b5,b6⟩:=hbm
   obtain⟨oc,vc,file,tf,flags,tg,inF,text,tt,c1,c2,c3,r⟩:=CodeHd.of (hT n hn).code (hT n hn).tab
   refine⟨⟨oc,vc,file,tf,flags,tg,inF,text,tt,base_of c1 (noT c1 (fun z=>by rw[z]at c2;cases c2) (fun z=>by rw[c2]at z;exact absurd z (by decide))),c2,c3,r⟩,bm,ob,b1,b2,fun z=>?_,fun z=>?_,base_of b3 (noT b3 (fun z=>by rw[z]at b4;cases b4) (fun z=>by rw[b4]at z;exact absurd z (by decide))),b4,b5,b6⟩
   ·obtain⟨o,es,ep,e,d,_⟩:=hns
    rw[←z,b3]at e;cases e
    rw[b6]at d;cases d
   ·rw[z,hta n hn]at b3;cases b3
    cases b4
  refine codeAny_mono ((F _ hKb (nsK hns) hL).run callerA [] s₁ H ⟨[.ref a],[]⟩ [.ref a] [.ref a] _ _ hr e0 (hbind s₁ (.ref a)) (.cons rfl .nil) (hsp H (fun n hn=>hPt _ ⟨n,hn,rfl⟩) hS)) fun r s' h=>?_
  cases r with
  | error e=>exact(hCX H e s' h).elim
  | ok fl=>
   cases fl with
   | next=>exact False.elim h
   | brk=>exact False.elim h
   | cont=>exact False.elim h
   | ret u=>
    obtain⟨v,H',os,bare,un,hok',r',q⟩:=h
    have q':v=.bl true:=q
    subst q'
    obtain rfl:u=Value.bool true:=r'
    refine⟨rfl,⟨fun b o e=>?_,fun b o e=>un.there b o e (by simp)⟩,os,bare⟩
    cases q:H b with
    | none=>exact .inl (un.keep b o e q (by intro z;exact absurd (show b∈([]:List Addr) from z) (by simp)) (by simp))
    | some u=>
     rcases hA b (by rw[q];simp) with⟨_,ob,xs,z⟩|⟨⟨n,hn,e'⟩,z⟩
     ·have z2:=un.frzs b ob _ z
      obtain⟨e1,_⟩:=hok b _ z
      obtain⟨e2,_⟩:=hok' b _ z2
      rw[e]at e1;cases e1
      exact .inl e2
     ·obtain⟨more,z2⟩:=un.tbls b _ z
      have e1:s₁.heap.get? b=some (tabObj #[]):=hok b _ z
      have e2:s'.heap.get? b=some (tabObj (#[]++more)):=hok' b _ z2
      rw[e]at e1;cases e1
      exact .inr (.inl ⟨by rw[←e'];exact(hT n hn).tab.isCodeTable,rfl,#[],more,rfl,e2⟩)
 cases hk:K.lookup a with
 | some o=>
  have e:=KX a o hk
  rw[ha]at e
  cases e
  haveI:DecidablePred isP:=fun _=>Classical.propDecidable _
  refine core (fun b=>if isP b then some (.tbl #[]) else none) (.inr ⟨_,vs.toArray,_,hk,rfl,rfl,rfl,by rw[YAI,lenV];exact hl,by simpa using rv⟩) (fun b u z=>?_) (fun b z=>?_) (fun b hb=>YAO hb) fun z=>?_
  ·by_cases hb:isP b
   ·have z':=(YAO hb).symm.trans z
    cases z'
    obtain⟨n,hn,rfl⟩:=hb
    exact hta n hn
   ·have z':=(YAJ hb).symm.trans z
    cases z'
  ·by_cases hb:isP b
   ·exact .inr ⟨hb,YAO hb⟩
   ·exact absurd (YAJ hb) z
  ·have:¬isP a:=fun ⟨n,hn,e⟩=>aP n hn e
   exact absurd (YAJ this) z
 | none=>
  haveI:DecidablePred isP:=fun _=>Classical.propDecidable _
  refine core (fun b=>if b=a then some (.frz { cls:=.type "list",data:=.seq vs.toArray } (.lst (ns.map V.int))) else if isP b then some (.tbl #[]) else none) (.inl (.inr ⟨{ cls:=.type "list",data:=.seq vs.toArray },YAO rfl⟩)) (fun b u z=>?_) (fun b z=>?_) (fun b hb=>?_) fun _=>hk
  ·by_cases hb:b=a
   ·have z':=(YAO hb).symm.trans z
    cases z'
    subst hb
    exact⟨ha,by rw[YAE];exact hl,vs,_,rv,ha⟩
   ·have z':=(YAJ hb).symm.trans z
    by_cases hp:isP b
    ·have z2:=(YAO hp).symm.trans z'
     cases z2
     obtain⟨n,hn,rfl⟩:=hp
     exact hta n hn
    ·have z2:=(YAJ hp).symm.trans z'
     cases z2
  ·by_cases hb:b=a
   ·exact .inl ⟨hb,_,_,YAO hb⟩
   ·by_cases hp:isP b
    ·exact .inr ⟨hp,by rw[YAJ hb,YAO hp]⟩
    ·exact absurd (by rw[YAJ hb,YAJ hp]) z
  ·have nb:b≠a:=by obtain⟨n,hn,rfl⟩:=hb;exact aP n hn
   rw[YAJ nb,YAO hb]
theorem walk_ofT {l:PySem.W.OpenLaw}{n k:Nat}{q:Program}{loose:List Str}{XP:(Str→Option Value)→Heap→Prop}{YP:World→Heap→Prop}{d:DefRec}{K:Params→PySem.W.Frag}{CX:CXT}{sp:PySem.W.Frag→(Str→Addr×Addr)→Sp}{x:Str}(nms:List Str)
  (hn:l.most=some n) (hn2:n≤sizeLine) (hdf:d.params.defaults=[]) (hr:Room k callerA)
  (hY:∀(w:World) (h:Heap),YP w h→(K w.params).In h) (hKt:∀P:Params,Zjj (K P)=true) (hnm:(nms.all fun n=>(recsOf q).any fun e=>e.name == n)=true)
  (F:∀(w:World) (mg:Str→Option Value) (fa:Addr) (h:Heap) (tb:Str→Addr×Addr),(K w.params).In h→h.Ns mainGlobals mg→mg d.name=some (.ref fa)→(∀n∈nms,TabOf mg h n (tb n).1 (tb n).2) →
   ∃fd:FuncData,(∀(s:Shared) (u:Value),BindsTo s fd ⟨[u],[]⟩ [(x,u)]) ∧
    ∀base:Heap,(K w.params).In base→base.Ns mainGlobals mg→(∀n∈nms,LamEnv base mg (tb n).1 (tb n).2)→FnOk l.prog w (K w.params) mg base CX k fa fd [x] (sp (K w.params) tb))
  (hsp:∀(K:PySem.W.Frag) (tb:Str→Addr×Addr) (H:Hp) (a:Addr) (ns:List Int),ns.length≤n→(∀n∈nms,H (tb n).2=some (.tbl #[]))→SqL K H a (ns.map V.int)→sp K tb [.ref a] H (fun v _=>v=.bl true) fun _ _ _=>False)
  (hCX:∀(H:Hp) (s:Shared) (e:Value) (s':Shared),CX [] H s (fun _ _ _=>False) e s'→False):
  PySem.W.WalkO q loose XP YP l.row.toRowW d [] (fun f vs=>PySem.call f vs):=by
 refine Att.attach_call hn hdf fun w s₀ s₁ mg mb fa o pm cd doc a vs ns G Y ho hd hcd hmg hobj hints hlen hg=>?_
 have KX:=hY w _ Y
 have ex:∀n:Str,∃cp:Addr×Addr,n∈nms→TabOf mg s₁.heap n cp.1 cp.2:=fun n=>by
  by_cases h:n∈nms
  ·rw[YBE]at hnm
   have:=hnm n h
   rw[List.any_eq_true]at this
   obtain⟨e,he,en⟩:=this
   have en:e.name=n:=by simpa using en
   obtain⟨a',o',fd',c,P,h1,h2,h3,h4,h5,h6⟩:=G.T.tab e he
   exact⟨(c,P),fun _=>⟨⟨a',o',fd',by rw[←en];exact h1,h2,h3,h4⟩,h5,h6⟩⟩
  ·exact⟨(0,0),fun z=>absurd z h⟩
 obtain⟨tb,htb⟩:=Classical.skolem.mp ex
 obtain⟨fd,hb,hF⟩:=F w mg fa _ tb KX G.T.g hmg htb
 exact Zib KX G.T.g G.T.b G.T.builtins G.T.nolimit hg hobj hints (YAP hlen hn2) hr htb (hKt _) G.T.bmain hF hb (fun H hP hS=>hsp (K w.params) tb H a ns hlen hP hS) fun H e s'=>hCX H s₁ e s'
section
variable {P:Program}{w:World}{K:PySem.W.Frag}{mg:Str→Option Value}{base:Heap}
theorem Fun.okC {x qual:Str}{st:Stmt}{f:Addr}{fd:FuncData}{N ps:List Str}{k:Nat}{sp:Sp}{c:Value}(F:Fun K x qual st f fd)(hc:fd.code=c)(S:FnScope N ps (Zah st))(len:∀vs H Q E,sp vs H Q E→vs.length=ps.length)
  (body:∀(A:Around) (outer:List Env) (s:Shared) (H:Hp) (vs:List V) (Q:VK) (E:XK),Room k (A.deeper (envOfC qual (Zah st) s.heap.objs.size f c))→sp vs H Q E →
   ∃t,PSs (cxOf CX0 P w K mg base N qual (Zah st) f c A outer s H E).nox (Zbi st) t∧t { nx:=fun _ H'=>Q .non H',rt:=Q } (start N vs) H):FnOk P w K mg base CX0 (k+1) f fd ps sp:=by
 obtain⟨⟨oc,od,kV,doc,pm,an,cdv,ct,osl,rfl,l,cc⟩,_⟩:=F
 obtain rfl:cdv=c:=hc
 refine Zls l cc S len fun A outer s H vs Q E hr hsp=>?_
 obtain⟨t,h,q⟩:=body A outer s H vs Q E hr hsp
 exact⟨t,h.nox,q⟩
theorem Fun.at {x qual:Str}{st:Stmt}{f:Addr}{fd:FuncData}{h:Heap}(F:Fun K x qual st f fd)(KX:K.In h):∃o,h.get? f=some o∧o.data=.func fd:=by
 obtain⟨⟨oc,od,kV,doc,pm,an,cdv,ct,osl,rfl,l,cc⟩,_⟩:=F
 exact⟨_,KX _ _ l,rfl⟩
end
structure LamScope (N ps:List Str)(fr:Str)(scope:Scope):Prop where
 kind:scope.kind=.function
 co:scope.isCoroutine=false
 gen:scope.isGenerator=false
 nocell:∀x∈scope.names,x.2≠.cell
 par:∀x∈ps,scope.names.lookup x=some .local
 free:scope.names.lookup fr=some .free
 one:∀x∈scope.names,x.2=.free→x.1=fr
 nd:ps.Nodup
 names:N=ps++[fr]
noncomputable def ZjH (P:Program)(w:World)(K:PySem.W.Frag)(mg:Str→Option Value)(base:Heap)(N:List Str)(qual:Str)(scope:Scope)(g:Addr)(cd:Value)(cl:List (Str×Addr))(A:Around)(outer:List Env)(s:Shared)(H:Hp):Cx where
 prog:=P
 w:=w
 K:=K
 mg:=mg
 base:=base
 A:=A.deeper (envX qual scope s.heap.objs.size g cd cl)
 N:=N
 s₀:=s
 H₀:=H
 env:=envX qual scope s.heap.objs.size g cd cl
 outer:=outer
 stack:=envX qual scope s.heap.objs.size g cd cl::outer
 ex:=[]
 calm:=true
 fn:=fun _=>false
 pn:=[]
 xe:=fun _ _=>False
theorem Zcv {α β:Type}[BEq α][LawfulBEq α]:∀ {l:List (α×β)} {k:α} {v:β},(l.map (·.1)).Nodup→(k,v)∈l→l.lookup k=some v
 | [],_,_,_,h=>by cases h
 | (k',v')::r,k,v,nd,h=>by
  rw[YBD]
  rcases YAK.mp h with e | h'
  ·cases e;simp
  ·have nd':=YBr.mp nd
   have ne:k≠k':=fun z=>nd'.1 (by rw[←z];exact YBX.mpr ⟨(k,v),h',rfl⟩)
   have:(k == k')=false:=by simpa using ne
   rw[this]
   exact Zcv nd'.2 h'
theorem Zf6:∀ {ps:List Str} {us:List Value},us.length=ps.length→(ps.zip us).map (·.1)=ps
 | [],[],_=>rfl
 | [],_::_,h=>by cases h
 | _::_,[],h=>by cases h
 | p::ps,u::us,h=>by
  rw[List.zip_cons_cons,YAf,Zf6 (by simpa using h)]
theorem ZiN {ps:List Str}{us:List Value}{i:Nat}{y:Str}{u:Value}(nd:ps.Nodup)(hl:us.length=ps.length)(h1:ps[i]?=some y)(h2:us[i]?=some u):(ps.zip us).reverse.lookup y=some u:=by
 refine Zcv ?_ ?_
 ·rw[List.map_reverse,Zf6 hl]
  exact List.pairwise_reverse.mpr (nd.imp fun h=>h.symm)
 ·rw[YBS]
  exact YAr (i:=i) (by rw[List.getElem?_zip_eq_some];exact⟨h1,h2⟩)
section
variable {P:Program}{w:World}{K:PySem.W.Frag}{mg:Str→Option Value}{base:Heap}{N ps:List Str}{fr qual:Str}{scope:Scope}{g c c':Addr}{cd:Value}{A:Around}{outer:List Env}{s:Shared}{H:Hp}{us:List Value}{vs:List V}{u:Value}{v:V}
theorem Zlj {h1:Heap}{tk:Nat}(S:LamScope N ps fr scope)(hd:A.handled=none)(e0:Env0 P w K mg base A outer s H)(hl:vs.length=ps.length)(r:Vals vs us)(hc:s.heap.IsCell c (some u))(hv:RelV v u)(hf:H c=none)
  (ns:h1.Ns s.heap.objs.size (fun x=>(ps.zip us).reverse.lookup x)) (hk:∀b o,s.heap.get? b=some o→h1.get? b=some o):
  Inv (ZjH P w K mg base N qual scope g cd [(fr,c)] A outer s H) [] (vs.map some++[some v]) H { s with heap:=h1,toks:=tk }:=by
 have noA:∀b:Addr,b∉(ZjH P w K mg base N qual scope g cd [(fr,c)] A outer s H).ex:=fun b z=>absurd (show b∈([]:List Addr) from z) (by simp)
 have lk:∀(y:Str) (d:Addr),([(fr,c)]:List (Str×Addr)).lookup y=some d→y=fr∧d=c:=fun y d h=>by
  rw[YBD]at h
  by_cases z:y=fr
  ·subst z
   simp at h
   exact⟨rfl,h.symm⟩
  ·have:(y == fr)=false:=by simpa using z
   rw[this]at h
   cases h
 have lf:([(fr,c)]:List (Str×Addr)).lookup fr=some c:=by simp[YBD]
 have hcell:h1.IsCell c (some u):=by
  obtain⟨o,e,rest⟩:=hc
  exact⟨o,hk _ _ e,rest⟩
 have hul:us.length=ps.length:=by rw[←r.length];exact hl
 refine⟨⟨e0.mod,S.kind,rfl,rfl,YAQ _,fun y z d h1 h2=>?_,fun y hy=>?_,fun y d hfn _=>?_,fun _=>hd,Around.frames_deeper e0.frames,.inr ⟨rfl,rfl⟩,fun b z=>absurd z (noA b),e0.bs,e0.bsz,fun b _ _=>noA b,fun b z=>absurd z (noA b),e0.funs,e0.frf⟩,
  rfl,e0.bare,Un.kept hk,⟨_,ns,fun i y v' h1 h2 h3=>?_⟩,fun y d h=>?_,e0.hok.fresh (YAQ _),fun y d h=>?_,fun p hp=>absurd (show p∈([]:List (Addr×Obj)) from hp) (by simp),e0.hok.kept hk,?_⟩
 ·exact(lk y d h1).1.trans (lk z d h2).1.symm
 ·have hy:scope.names.lookup y=some .cell∨scope.names.lookup y=some .free:=hy
  rcases hy with hy | hy
  ·exact absurd rfl (S.nocell _ (YBM hy))
  ·have:=S.one _ (YBM hy) rfl
   exact⟨c,by rw[show y=fr from this];exact lf⟩
 ·exact absurd (show false=true from hfn) YAC
 ·have h1:N[i]?=some y:=h1
  rw[S.names]at h1
  by_cases hi:i<ps.length
  ·rw[YAi hi]at h1
   rw[YAi (by rw[YAE];omega),YAo]at h2
   cases e:vs[i]? with
   | none=>rw[e]at h2;cases h2
   | some a=>
    rw[e]at h2;cases h2
    obtain⟨u',hu',rv⟩:=r.get e
    exact⟨u',rv,.inl ⟨S.par y (YAr h1),ZiN S.nd hul h1 hu'⟩⟩
  ·rw[YAg (by omega)]at h1
   rw[YAg (by rw[YAE];omega),YAE,hl]at h2
   cases hj:i-ps.length with
   | succ j=>rw[hj]at h1;simp at h1
   | zero=>
    rw[hj]at h1 h2
    have e1:fr=y:=by simpa using h1
    have e2:v=v':=by simpa using h2
    subst e1 e2
    exact⟨u,hv,.inr ⟨.inr S.free,c,lf,hcell⟩⟩
 ·exact⟨_,by rw[(lk y d h).2];exact hcell⟩
 ·rw[(lk y d h).2];exact hf
 ·show (vs.map some++[some v]).length=N.length
  rw[S.names,YAF,YAF,YAE,hl]
  rfl
theorem Zlb {CX:CXT}{k:Nat}{q:Str}{params:Arguments}{body:Expr}{pm ctv:Value}{Q:VK}{E:XK}(S:LamScope N ps fr scope)(hr:Room (k+1) A)(e0:Env0 P w K mg base A outer s H)(hl:vs.length=ps.length)(r:Vals vs us)
  (ho:s.heap.get? g=some (kla_obj "<lambda>" q params body scope [(fr,c)] pm c' ctv)) (hcd:s.heap.CodeRec (.ref c') q) (hb:BindsTo s (kla_fn "<lambda>" q params body scope [(fr,c)] pm (.ref c') ctv) ⟨us,[]⟩ (ps.zip us))
  (hc:s.heap.IsCell c (some u)) (hv:RelV v u) (hf:H c=none)
  (hbody:∃t,PE (ZjH P w K mg base N q scope g (.ref c') [(fr,c)] A outer s H) body t∧t (vs.map some++[some v]) H Q):codeAny (model P w) A (.call (.ref g) ⟨us,[]⟩) (CR CX outer P w H s Q E) s:=by
 have lim:s.heap.NoLimit:=e0.mod.nolimit.keeps fun b o e=>(e0.bs b o e).1
 refine kla_callFunE hr.depth ho rfl S.co S.gen rfl hcd (hb _ _ _ _ ?_)
 refine wpAny_newFunctionEnv S.nocell (fun x hx=>S.par _ (List.of_mem_zip (show (x.1,x.2)∈_ from hx)).1) (fun h1 ns sb=>?_) S.kind
 have hk:∀b o,s.heap.get? b=some o→h1.get? b=some o:=fun b o e=>sb.extBut b o (YAX (YAH e)) (YAB _ e)
 refine⟨lim.keeps hk,kla_codeExpr ?_⟩
 have I:=Zlj (qual:=q) (g:=g) (cd:=.ref c') (tk:=s.toks+(ps.zip us).length) S hr.hd e0 hl r hc hv hf ns hk
 obtain⟨t,ht,hq⟩:=hbody
 refine YBF (ht [] _ _ H _ I hq) (fun u s' ⟨v,H',J,rv,q⟩=>⟨v,H',J.os,J.bare,J.base,J.hok,rv,q⟩) fun e s' z=>z.elim
end
end L2
namespace L2
open PySem PySem.Spec PyProof.Rows
section
variable {X:Cx}{CX:CXT}{k:Nat}{f:Addr}{fd:FuncData}{ps:List Str}{sp:Sp}{ds:List Value}{dvs:List V}{E:XK}{e:Expr}{es:List Expr}{t:TA}{tf:TE}{x:Str}{p pos:Pos}
end
end L2
namespace L2
open PySem PySem.Spec PyProof.Rows PySem.W
noncomputable def unf (H:Hp)(c:Addr):Hp:=fun b=>if b=c then none else H b
theorem Zb0 {H:Hp}{c:Addr}:unf H c c=none:=YAO rfl
theorem Zbd {H:Hp}{b c:Addr}(h:b≠c):unf H c b=H b:=YAJ h
section
variable {P:Program}{w:World}{H H3:Hp}{h h3:Heap}{c:Addr}{o:Obj}{fs ex:List Addr}
theorem HOk.unf (x:HOk P w H h)(hc:H c=some (.frz o (.own c))):HOk P w (L2.unf H c) h:=fun a u e=>by
 by_cases z:a=c
 ·rw[z,Zb0]at e;cases e
 ·rw[Zbd z]at e
  exact(x a u e).stay (fun b v _ q=>q) (fun b q=>by rw[Zbd (fun y=>by rw[y,hc]at q;cases q)];exact q) fun b xs q=>by rw[Zbd (fun y=>by rw[y,hc]at q;cases q)];exact q
theorem HOk.frzC (x:HOk P w H h)(n:H c=none)(e:h.get? c=some o):HOk P w (upd H c (.frz o (.own c))) h:=fun a u q=>by
 by_cases z:a=c
 ·subst z
  rw[Zad]at q;cases q
  exact⟨e,o,e⟩
 ·rw[Zae z]at q
  exact(x a u q).stay (fun b v _ q=>q) (fun b q=>by rw[Zae (Zak q n)];exact q) fun b xs q=>by rw[Zae (Zak q n)];exact q
theorem Un.frzIn (u:Un fs ex (upd H c (.frz o (.own c))) H3 h h3)(n:H c=none)(e:h.get? c=some o)(hok:HOk P w H3 h3)(hfs:c∉fs):Un fs ex H (unf H3 c) h h3:=by
 have h3c:H3 c=some (.frz o (.own c)):=u.frzs c _ _ Zad
 have ho3:h3.get? c=some o:=(hok c _ h3c).1
 have ne:∀ {b:Addr} {v:HO},H b=some v→b≠c:=fun q=>Zak q n
 refine⟨fun b v q nb hf hx=>?_,fun b v q nb hf hx=>?_,fun b v q nb hx=>?_,fun b v q hx=>u.there b v q hx,fun b xs q=>?_,fun b v w q=>?_,fun b ps q=>?_⟩
 ·by_cases z:b=c
  ·subst z;rw[e]at q;cases q;exact ho3
  ·exact u.keep b v q (by rw[Zae z];exact nb) hf hx
 ·have z:b≠c:=fun z=>hfs (by rw[←z];exact hf)
  exact u.slot b v q (by rw[Zae z];exact nb) hf hx
 ·by_cases z:b=c
  ·rw[z];exact Zb0
  ·rw[Zbd z];exact u.free b v q (by rw[Zae z];exact nb) hx
 ·rw[Zbd (ne q)];exact u.tups b xs (by rw[Zae (ne q)];exact q)
 ·rw[Zbd (ne q)];exact u.frzs b v w (by rw[Zae (ne q)];exact q)
 ·rw[Zbd (ne q)];exact u.tbls b ps (by rw[Zae (ne q)];exact q)
theorem Un.frzOut (u:Un fs ex (unf H c) H3 h h3)(hc:H c=some (.frz o (.own c)))(e:h.get? c=some o)(hfs:c∉fs)(hex:c∉ex):Un fs ex H (upd H3 c (.frz o (.own c))) h h3∧H3 c=none∧h3.get? c=some o:=by
 have h3n:H3 c=none:=u.free c o e Zb0 hex
 have h3o:h3.get? c=some o:=u.keep c o e Zb0 hfs hex
 refine⟨⟨fun b v q nb hf hx=>?_,fun b v q nb hf hx=>?_,fun b v q nb hx=>?_,fun b v q hx=>u.there b v q hx,fun b xs q=>?_,fun b v w q=>?_,fun b ps q=>?_⟩,h3n,h3o⟩
 ·have z:b≠c:=fun z=>by rw[z,hc]at nb;cases nb
  exact u.keep b v q (by rw[Zbd z];exact nb) hf hx
 ·have z:b≠c:=fun z=>by rw[z,hc]at nb;cases nb
  exact u.slot b v q (by rw[Zbd z];exact nb) hf hx
 ·have z:b≠c:=fun z=>by rw[z,hc]at nb;cases nb
  rw[Zae z]
  exact u.free b v q (by rw[Zbd z];exact nb) hx
 ·have z:b≠c:=fun z=>by rw[z,hc]at q;cases q
  rw[Zae z];exact u.tups b xs (by rw[Zbd z];exact q)
 ·by_cases z:b=c
  ·subst z;rw[hc]at q;cases q;exact Zad
  ·rw[Zae z];exact u.frzs b v w (by rw[Zbd z];exact q)
 ·have z:b≠c:=fun z=>by rw[z,hc]at q;cases q
  rw[Zae z];exact u.tbls b ps (by rw[Zbd z];exact q)
end
noncomputable def freeOf (l:List (Str×NameKind)):List Str:=(l.filter fun x=>x.2 == .free).map (·.1)
theorem Zb6 {env:Env}{c:Addr}:∀(l:List (Str×NameKind)) (acc:List (Str×Addr)),
  (freeOf l=[]→(forIn l acc (fun (x:Str×NameKind) (r:List (Str×Addr))=>(do if x.2 == .free then (do let a ←cellOf env x.1;pure (ForInStep.yield ((x.1,a)::r))) else pure (ForInStep.yield r):Sem (ForInStep (List (Str×Addr))))):Sem (List (Str×Addr)))=pure acc) ∧
  (∀n,freeOf l=[n]→env.cells.lookup n=some c→(forIn l acc (fun (x:Str×NameKind) (r:List (Str×Addr))=>(do if x.2 == .free then (do let a ←cellOf env x.1;pure (ForInStep.yield ((x.1,a)::r))) else pure (ForInStep.yield r):Sem (ForInStep (List (Str×Addr))))):Sem (List (Str×Addr)))=pure ((n,c)::acc))
 | [],acc=>⟨fun _=>by rw[YDY],fun n h=>by cases h⟩
 | (n,k)::r,acc=>by
  by_cases z:k=.free
  ·subst z
   have e:freeOf ((n,NameKind.free)::r)=n::freeOf r:=rfl
   refine⟨fun h=>(by rw[e]at h;cases h),fun n' h hl=>?_⟩
   rw[e]at h
   have h1:n=n':=by injection h
   have h2:freeOf r=[]:=by injection h
   subst h1
   rw[YBs]
   have:(NameKind.free == NameKind.free)=true:=rfl
   simp only[this,if_true,cellOf,hl,pure_bind]
   exact(Zb6 (c:=c) r _).1 h2
  ·have zb:(k == NameKind.free)=false:=by simpa using z
   have e:freeOf ((n,k)::r)=freeOf r:=by unfold freeOf;rw[List.filter_cons];simp[zb]
   refine⟨fun h=>?_,fun n' h hl=>?_⟩
   ·rw[e]at h
    rw[YBs]
    simp only[zb,YCD,if_false,pure_bind]
    exact(Zb6 (c:=c) r _).1 h
   ·rw[e]at h
    rw[YBs]
    simp only[zb,YCD,if_false,pure_bind]
    exact(Zb6 r _).2 n' h hl
theorem ZdO {scope:Scope}{env:Env}{fr:Str}{c:Addr}(h:freeOf scope.names=[fr])(hl:env.cells.lookup fr=some c):closureFor scope env=pure [(fr,c)]:=by
 have g:=(Zb6 (env:=env) (c:=c) scope.names []).2 fr h hl
 unfold closureFor
 simp only[bind_pure]
 first
  | exact g
  | (refine Eq.trans ?_ g;congr 1;funext x r;obtain⟨n,k⟩:=x;simp)
def LamAt (q:Str)(params:Arguments)(body:Expr)(scope:Scope)(fr:Str)(H:Hp)(g c:Addr)(v:V):Prop:=
 ∃(o:Obj) (u pm ctv:Value) (c':Addr),H g=some (.frz (kla_obj "<lambda>" q params body scope [(fr,c)] pm c' ctv) (.own g))∧H c'=some (ZdP c' q)∧H c=some (.frz o (.own c))∧o.data=.cell (some u)∧RelV v u
theorem LamAt.same {q:Str}{params:Arguments}{body:Expr}{scope:Scope}{fr:Str}{H H':Hp}{g c:Addr}{v:V}(l:LamAt q params body scope fr H g c v)(s:SameL H H'):LamAt q params body scope fr H' g c v:=by
 obtain⟨o,u,pm,ctv,c',e1,e2,e3,e4,e5⟩:=l
 exact⟨o,u,pm,ctv,c',s _ _ e1 rfl,s _ _ e2 rfl,s _ _ e3 rfl,e4,e5⟩
section
variable {X:Cx}{pins:List (Addr×Obj)}{σ:St}{H:Hp}{s:Shared}
theorem Inv.cellFr {fr:Str}{c:Addr}(I:Inv X pins σ H s)(hfn:X.fn fr=true)(hl:X.env.cells.lookup fr=some c):c∉frs X.stack:=fun hb=>by
 rcases YAK.mp (I.stkSub c hb) with e | hb
 ·obtain⟨v,o,e1,e2⟩:=I.cell fr c hl
  obtain⟨m,⟨o',es,ep,e3,e4,_⟩,_⟩:=id I.loc
  rw[←e,e1]at e3;cases e3
  rw[e2]at e4;cases e4
 ·obtain⟨_,o,ho,_⟩:=I.ok.funs.mem hb
  have h1:=YAH ho
  have h2:=I.ok.cab fr c hfn hl
  exact absurd h1 (YDJ.mpr h2)
theorem Zh9 {M:Model}{h:Heap}{g:Addr}{fd:FuncData}{o:Obj}(e:h.get? g=some o)(d:o.data=.func fd):∃k,(k=Keeper.frame∨k=Keeper.machine∨k=Keeper.boundFrame)∧Looks M h (keeperOf (.ref g)) k:=by
 obtain⟨oc,od,data,sl⟩:=o
 cases d
 exact⟨.frame,.inl rfl,(Looks.ld (part:=none) e).andThen .now⟩
end
section
variable {X:Cx}{CX:CXT}{k:Nat}{f cc Pt:Addr}{fd:FuncData}{ps:List Str}{sp:Sp}{E:XK}{e1 e2 e3:Expr}{t1 t2 t3:TE}{x fr q:Str}{p pos lpos:Pos}{params:Arguments}{body:Expr}{scope:Scope}{i:Nat}
def Zgd (sp:Sp)(E:XK)(Pt:Addr)(lpos:Pos)(q:Str)(params:Arguments)(body:Expr)(scope:Scope)(fr:Str)(i:Nat)(t1 t2 t3:TE):TE:=fun σ H Q=>
 t1 σ H fun v1 H1=>t2 σ H1 fun v2 H2=>t3 σ H2 fun v3 H3=>∃v,σ[i]?=some (some v)∧TblOk H3 Pt lpos q ∧
  ∀(g c:Addr) (H4:Hp),H3 c=none→SameT lpos H3 H4→TblOk H4 Pt lpos q→LamAt q params body scope fr H4 g c v→sp [v1,v2,v3,.ref g] H4 (fun r H5=>Q r (unf H5 c)) E
theorem ZgY (F:FnOk X.prog X.w X.K X.mg X.base CX k f fd ps sp)(hr:Room k X.A)(hg:Gl X x)(hm:X.mg x=some (.ref f))(hk:PySem.W.keepIn X.K (.ref f)=true)(hb:Binds X.K fd ps [])
  (hx:∀(H:Hp) (s:Shared) (e:Value) (s':Shared),CX X.stack H s E e s'→False)
  (L:LamEnv X.base X.mg cc Pt) (hcode:X.env.code=.ref cc) (hcl:∀c,X.env.cells.lookup fr=some c→closureFor scope X.env=pure [(fr,c)]) (hdef:defaultsOf params X.env=([],[])) (hq:X.env.qual++"<lambda>"=q) (hfn:X.fn fr=true) (hN:X.N[i]?=some fr) (hkd:X.env.kindOf fr=some .cell)
  (h1:PE X e1 t1) (h2:PE X e2 t2) (h3:PE X e3 t3) (hdb:(x == ("__debug__":Str))=false:=by decide)
  (he:starEach (e1::[e2,e3,.Lambda params body scope lpos]) X.env=(false,eval e1 X.env)::starEach [e2,e3,.Lambda params body scope lpos] X.env:=by rfl) (hpl:(backTo pos (starEach [e2,e3,.Lambda params body scope lpos] X.env)).any (·.1)=false:=by rfl)
  (he2:starEach (e2::[e3,.Lambda params body scope lpos]) X.env=(false,eval e2 X.env)::starEach [e3,.Lambda params body scope lpos] X.env:=by rfl) (he3:starEach (e3::[.Lambda params body scope lpos]) X.env=(false,eval e3 X.env)::starEach [.Lambda params body scope lpos] X.env:=by rfl):
  PE X (.Call (.Name x p) [e1,e2,e3,.Lambda params body scope lpos] [] pos) (Zgd sp E Pt lpos q params body scope fr i t1 t2 t3):=by
 intro pins s σ H Q I h
 refine YBJ (Zbv I hg hm ?_ hdb)
 refine YBl (h₀:=X.base) I.ok.mod.kin hk ?_ he hpl
 refine spliced_more (thn (h1 pins s σ H _ I h) fun u1 s1 ⟨v1,H1,I1,r1,q1⟩=>?_) he
 refine spliced_more (thn (h2 pins s1 σ H1 _ I1 q1) fun u2 s2 ⟨v2,H2,I2,r2,q2⟩=>?_) he2
 refine spliced_more (thn (h3 pins s2 σ H2 _ I2 q2) fun u3 s3 ⟨v3,H3,I3,r3,v,hv,T,q3⟩=>?_) he3
 obtain⟨c,hl⟩:=I3.ok.has fr (.inl hkd)
 refine spliced_more (Ze9 I3 L hcode (hcl c hl) hdef hq T fun H4 h' tk c' ctv st T4 fr4 J hrec hc'=>spliced_none ?_) rfl
 have ng:H4 h'.objs.size=none:=J.hok.fresh (YAQ _)
 have s45:Same H4 (upd H4 h'.objs.size (.frz (kla_obj "<lambda>" q params body scope [(fr,c)] ((X.mg "__name__").getD .none) c' ctv) (.own h'.objs.size))):=Zaz ng
 have J5:=J.laid (a:=h'.objs.size) (o:=.frz (kla_obj "<lambda>" q params body scope [(fr,c)] ((X.mg "__name__").getD .none) c' ctv) (.own h'.objs.size)) (t':=tk) (fun b o e=>YAB (kla_obj "<lambda>" q params body scope [(fr,c)] ((X.mg "__name__").getD .none) c' ctv) e) (YAQ _) ⟨YAG _ rfl,_,YAG _ rfl⟩
 have g5:upd H4 h'.objs.size (.frz (kla_obj "<lambda>" q params body scope [(fr,c)] ((X.mg "__name__").getD .none) c' ctv) (.own h'.objs.size)) h'.objs.size=some (.frz (kla_obj "<lambda>" q params body scope [(fr,c)] ((X.mg "__name__").getD .none) c' ctv) (.own h'.objs.size)):=Zad
 generalize upd H4 h'.objs.size (.frz (kla_obj "<lambda>" q params body scope [(fr,c)] ((X.mg "__name__").getD .none) c' ctv) (.own h'.objs.size))=H5 at s45 J5 g5
 have hc5:=s45 _ _ hc'
 have q5:=fun H6 (s56:Same H5 H6)=>q3 h'.objs.size c H6 (I3.freeC fr c hl) ((st.then s45).then s56) ((T4.same s45).same s56)
 have r5:Vals [v1,v2,v3,.ref h'.objs.size] [u1,u2,u3,.ref h'.objs.size]:=.cons r1 (.cons r2 (.cons r3 (.cons rfl .nil)))
 generalize h'.objs.size=g at g5 q5 r5
 refine⟨J5.kIn,?_⟩
 dsimp only at J5 ⊢
 generalize hS:({ s3 with heap:=h'.push (kla_obj "<lambda>" q params body scope [(fr,c)] ((X.mg "__name__").getD .none) c' ctv),toks:=tk }:Shared)=s5 at J5 ⊢
 show wpAny _ _ (call (.ref f) [u1,u2,u3,.ref g]) _ _ s5
 obtain⟨m,ns,lo⟩:=id J5.loc
 obtain⟨u,ru,lk⟩:=lo i fr v hN hv (.inr (.inl hkd))
 obtain⟨o,oc,od⟩:s5.heap.IsCell c (some u):=by
  rcases lk with⟨z,_⟩|⟨_,c2,a,b⟩
  ·rw[hkd]at z;cases z
  ·rw[hl]at a;cases a;exact b
 have nc:H5 c=none:=J5.freeC fr c hl
 have cfr:=J5.cellFr hfn hl
 have e0:=J5.env0
 have cb:∀b ob,X.base.get? b=some ob→b≠c:=fun b ob e z=>by
  have h1:=YAH e
  have h2:=J5.ok.cab fr c hfn hl
  have h3:=J5.ok.bsz
  rw[z]at h1
  exact absurd h1 (YDJ.mpr (YAP h3 h2))
 have e0c:Env0 X.prog X.w X.K X.mg X.base X.A X.stack s5 (upd H5 c (.frz o (.own c))):=⟨e0.frames,e0.mod,fun b ob e=>⟨(e0.bs b ob e).1,by rw[Zae (cb b ob e)];exact(e0.bs b ob e).2⟩,e0.bsz,e0.funs,fun b hb=>by rw[Zae (fun z=>cfr (by rw[←z];exact hb))];exact e0.frf b hb,e0.hok.frzC nc oc,e0.bare⟩
 have s5c:Same H5 (upd H5 c (.frz o (.own c))):=Zaz nc
 have hsp2:=q5 _ s5c ⟨o,u,_,ctv,c',s5c _ _ g5,s5c _ _ hc5,Zad,od,ru⟩
 have hlen:([u1,u2,u3,.ref g]++([]:List Value)).length=ps.length:=by rw[YBt,←r5.length];exact F.len _ _ _ _ hsp2
 refine YBx (codeAny_mono (F.run X.A X.stack s5 _ ⟨[u1,u2,u3,.ref g],[]⟩ ([u1,u2,u3,.ref g]++[]) _ _ E hr e0c (hb _ _ J5.kIn hlen) (by rw[YBt];exact r5) hsp2) fun r s' hq'=>?_)
 cases r with
 | error e=>exact(hx _ _ e s' hq').elim
 | ok fl=>
  cases fl with
  | ret ur=>
   obtain⟨vr,H6,os,bare,un,hok,rr,qq⟩:=hq'
   have un':=un.frzIn nc oc hok cfr
   have h6c:=un.frzs c _ _ Zad
   exact⟨vr,unf H6 c,J5.call' os un' (hok.unf h6c) bare (fun b z=>by cases z),rr,qq⟩
  | next=>exact False.elim hq'
  | brk=>exact False.elim hq'
  | cont=>exact False.elim hq'
end
theorem Zhl {M:Model}{A:Around}{E:Value→Shared→Prop}{s:Shared}{env:Env}{pos:Pos}{f:Value}{first:List Value}{Q:Value→Shared→Prop}{P:Heap→Prop}{e:Expr}{rest:List Expr}(hk:∀h,P h→∃k,(k=Keeper.frame∨k=Keeper.machine∨k=Keeper.boundFrame)∧Looks M h (keeperOf f) k)
  (h:wpAny M A (spliced (backTo pos (starEach (e::rest) env))) (fun vs s₁=>P s₁.heap∧wpAny M A (call f (first++vs)) Q E s₁) E s)
  (he:starEach (e::rest) env=(false,eval e env)::starEach rest env:=by rfl) (hplain:(backTo pos (starEach rest env)).any (·.1)=false:=by rfl):wpAny M A (callWith pos f first (backTo pos (starEach (e::rest) env)) []) Q E s:=by
 rw[he]at h ⊢
 exact callWith_of (by show ((false || (backTo pos (starEach rest env)).any (·.1)) || false)=false;rw[hplain];rfl) hk (Calls.evalArgs_plain h)
section
variable {X:Cx}{k:Nat}{N ps:List Str}{e:Expr}{es:List Expr}{t:TA}{tf tB:TE}{x fr q:Str}{p pos:Pos}{params:Arguments}{body:Expr}{scope:Scope}
def Zhz (q:Str)(params:Arguments)(body:Expr)(scope:Scope)(fr:Str)(n:Nat)(tB tf:TE)(t:TA):TE:=fun σ H Q=>tf σ H fun x H1=>∃g,x=.ref g∧t σ H1 fun vs H2=>∃c v,LamAt q params body scope fr H2 g c v∧vs.length=n ∧
 tB (vs.map some++[some v]) (unf H2 c) fun r H3=>∀o,H2 c=some o→Q r (upd H3 c o)
theorem Zcq (hr:Room (k+1) X.A) (hf:PE X (.Name x p) tf) (S:LamScope N ps fr scope) (hb:∀(s:Shared) (us:List Value) (c c':Addr) (pm ctv:Value),us.length=ps.length→BindsTo s (kla_fn "<lambda>" q params body scope [(fr,c)] pm (.ref c') ctv) ⟨us,[]⟩ (ps.zip us))
  (hbody:∀(A:Around) (outer:List Env) (s:Shared) (H:Hp) (g c c':Addr),Room k (A.deeper (envX q scope s.heap.objs.size g (.ref c') [(fr,c)]))→PE (ZjH X.prog X.w X.K X.mg X.base N q scope g (.ref c') [(fr,c)] A outer s H) body tB)
  (ha:PA X (e::es) t) (he:starEach (e::es) X.env=(false,eval e X.env)::starEach es X.env:=by rfl) (hpl:(backTo pos (starEach es X.env)).any (·.1)=false:=by rfl):
  PE X (.Call (.Name x p) (e::es) [] pos) (Zhz q params body scope fr ps.length tB tf t):=by
 intro pins s σ H Q I h
 refine YBJ (thn (hf pins s σ H _ I h) fun u s0 ⟨v0,H0,I0,r0,g,ev,q0⟩=>?_)
 subst ev
 obtain rfl:u=Value.ref g:=r0
 refine Zhl (P:=fun h=>∃o fd,h.get? g=some o∧o.data=.func fd) (fun h ⟨o,fd,e1,e2⟩=>Zh9 e1 e2) (thn (ha pos pins s0 σ H0 _ I0 q0) fun us s1 ⟨vs,H1,I1,r,c,v,lam,hlen,qq⟩=>?_) he hpl
 obtain⟨o,uc,pm,ctv,c',hg,hc',hc,od,rv⟩:=lam
 have og:=(I1.hok g _ hg).1
 have oc:=(I1.hok c _ hc).1
 have cfr:c∉frs X.stack:=fun z=>by have:=I1.stkFree c z;rw[hc]at this;cases this
 refine⟨⟨_,_,og,rfl⟩,?_⟩
 show wpAny _ _ (call (.ref g) us) _ _ s1
 have e0:=I1.env0
 have unfN:∀ {b:Addr},H1 b=none→unf H1 c b=none:=fun {b} n=>by
  by_cases z:b=c
  ·rw[z];exact Zb0
  ·rw[Zbd z];exact n
 have e0c:Env0 X.prog X.w X.K X.mg X.base X.A X.stack s1 (unf H1 c):=⟨e0.frames,e0.mod,fun b ob e=>⟨(e0.bs b ob e).1,unfN (e0.bs b ob e).2⟩,e0.bsz,e0.funs,fun b hb=>unfN (e0.frf b hb),e0.hok.unf hc,e0.bare⟩
 refine YBx (codeAny_mono (Zlb (CX:=fun _ _ _ _ _ _=>False) (E:=fun _ _ _=>True) (Q:=fun r H3=>∀o,H1 c=some o→Q r (upd H3 c o)) S hr e0c hlen r og (I1.hok c' _ hc').1 (hb s1 us c c' pm ctv (by rw[←r.length];exact hlen)) ⟨o,oc,od⟩ rv Zb0 ⟨tB,hbody X.A X.stack s1 _ g c c' (hr.deeper _),qq⟩) fun r s' hq'=>?_)
 cases r with
 | error e=>exact False.elim hq'
 | ok fl=>
  cases fl with
  | ret ur=>
   obtain⟨vr,H6,os,bare,un,hok,rr,qq⟩:=hq'
   obtain⟨un',h6n,h6o⟩:=un.frzOut hc oc cfr (fun z=>by cases z)
   exact⟨vr,_,I1.call' os un' (hok.frzC h6n h6o) bare (fun b z=>by cases z),rr,qq _ hc⟩
  | next=>exact False.elim hq'
  | brk=>exact False.elim hq'
  | cont=>exact False.elim hq'
end
end L2
namespace L2
open PySem PySem.Spec PyProof.Rows
end L2
namespace L2
open PySem PySem.Spec PyProof.Rows
open PySem.W (Frag)
theorem Zgw {X:Cx}:MtM X "str.find" (fun x vs H Q=>∃l w,x=tx l∧vs=[tx w]∧∀r:Int,((r=-1∧¬Inf w l)∨∃i:Nat,r=(i:Int)∧AtW l w i∧∀j,j<i→¬AtW l w j)→Q (.int r) H):=by
 rintro pins s σ H x vs v us Q I rx rv ⟨l,w,rfl,rfl,q⟩
 obtain⟨t,rfl⟩:=rx
 obtain⟨u,rfl,t',rfl⟩:=rv.one
 refine SC.find ?_
 refine⟨.int _,H,I.tok _,⟨_,rfl⟩,q _ ?_⟩
 rcases find_whole (⟨l.toArray⟩:Str) ⟨w.toArray⟩ with⟨h1,h2⟩|⟨i,h1,h2,h3⟩
 ·exact .inl ⟨h1,fun ⟨i,hi⟩=>h2 i ((ZbQ l w i).mpr hi)⟩
 ·exact .inr ⟨i,h1,(ZbQ l w i).mp h2,fun j hj hA=>h3 j hj ((ZbQ l w j).mpr hA)⟩
section
variable {τ0:St}{tt:TT}{te:TE}{H:Hp}{Q:VK}
end
section
variable {X:Cx}{pos:Pos}
end
end L2
namespace L2
open PySem PySem.Spec PyProof.Rows PySem.Builtin.Str
def tOr2 (t1 t2:TE):TE:=fun σ H Q=>t1 σ H Q∨t2 σ H Q
theorem ZdV {X:Cx}{e:Expr}{t1 t2:TE}(h1:PE X e t1)(h2:PE X e t2):PE X e (tOr2 t1 t2):=fun pins s σ H Q I h=>h.elim (h1 pins s σ H Q I) (h2 pins s σ H Q I)
section
variable {X:Cx}
end
end L2
namespace L2
open PySem PySem.W
def DG (K:Frag)(x:Str)(s:Stmt)(f:Addr)(e:FuncData):Prop:=nsIn K mainGlobals x=some (some (.ref f))∧Fun K x x s f e
def MG (K:Frag)(x q:Str)(s:Stmt)(f:Addr)(e:FuncData):Prop:=Fun K x q s f e∧PySem.W.isFn K (.ref f)=true
structure XG (K:Frag)(x:Str)(C:Addr)(L:List Value):Prop where
 a:nsIn K mainGlobals x=some (some (.ref C))
 m:Xm K C
 i:Xi K C
 k:ClsOk K C L
theorem xg_mk {K:Frag} {x:Str} {C:Addr} {L:List Value} {cd:ClassData} {nm qn:Str} {N:Addr} {bs bm:List Value} {hdct:Bool} {sn:List Str} {sub:List Value} {ab:Bool} {col:Option Bool} {dd:Option Addr} {k0 k1 k2 k3 k5:Option Value} (a:nsIn K mainGlobals x=some (some (.ref C))) (q:clsIn K C=some cd) (r:cd.mro=L) (ty:typeIn K (.ref C)=some (.type "type"))
  (ga:findIn K (.ref C) "__getattribute__"=some (some (.builtin "BaseException.__getattribute__"))) (gr:findIn K (.ref C) "__getattr__"=some none) (sa:findIn K (.ref C) "__setattr__"=some (some (.builtin "object.__setattr__"))) (hd:PySem.W.hasDictIn K C=true)
  (ob:K.lookup C=some (excClassObj nm qn C N bs bm hdct sn sub ab col dd k0 k1 k2 k3 k5 "ValueError.__new__")) (kp:PySem.W.keepIn K (.ref C)=true) (ha:findIn K (.ref C) "__class__"=some (some (.builtin "object.__class__")))
  (hn:specialIn K (.builtin "object.__class__") "__get__"=some (some (.builtin "getset_descriptor.__get__"))) (tk:PySem.W.takesIn K (.builtin "object.__class__")=some true) (x1:xmro L=true) (x2:L.isEmpty=false):XG K x C L:=
 have c:Xc K C:=⟨ga,gr,sa,hd,by rw[q];show xmro cd.mro=true;rw[r];exact x1⟩
 ⟨a,⟨c,⟨_,_,_,_,_,_,_,_,_,_,_,_,_,_,_,_,ob⟩,kp⟩,⟨c,ha,hn,tk⟩,⟨⟨_,q,r⟩,ty,x2⟩⟩
theorem dg_mk {K:Frag}{x:Str}{st:Stmt}{f:Addr}{oc:Value}{od an:Option Addr}{osl:Array (Option Value)}{kV doc pm cdv ct:Value}(a:nsIn K mainGlobals x=some (some (.ref f)))(l:K.lookup f=some ⟨oc,od,.func (PySem.W.fnOf x x (ZbX st) (Zbi st) (Zah st) .none kV doc pm an cdv ct),osl⟩)
  (c:PySem.W.codeIn K cdv x=true) (k:PySem.W.keepIn K (.ref f)=true):DG K x st f (PySem.W.fnOf x x (ZbX st) (Zbi st) (Zah st) .none kV doc pm an cdv ct):=⟨a,Zkd l c k⟩
theorem mg_mk {K:Frag}{x q:Str}{st:Stmt}{f:Addr}{oc:Value}{od an:Option Addr}{osl:Array (Option Value)}{kV doc pm cdv ct:Value}(l:K.lookup f=some ⟨oc,od,.func (PySem.W.fnOf x q (ZbX st) (Zbi st) (Zah st) .none kV doc pm an cdv ct),osl⟩)
  (c:PySem.W.codeIn K cdv q=true) (k:PySem.W.keepIn K (.ref f)=true) (n:PySem.W.isFn K (.ref f)=true):MG K x q st f (PySem.W.fnOf x q (ZbX st) (Zbi st) (Zah st) .none kV doc pm an cdv ct):=⟨Zkd l c k,n⟩
end L2
namespace L2
open PySem PySem.Spec PyProof.Rows
structure PAz (X:Cx)(es:List Expr)(t:TA):Prop where
 h:PA X es t
structure Lin {α:Type}(lt:α→α→Bool):Prop where
 asym:∀a b,lt a b=true→lt b a=false
 trans:∀a b c,lt a b=true→lt b c=true→lt a c=true
 tri:∀a b,lt a b=false→lt b a=false→a=b
section
variable {prog:Program}{w:World}{A:Around}{E:Value→Shared→Prop}{s:Shared}
end
section
variable {prog:Program}{w:World}{A:Around}{E:Value→Shared→Prop}{s:Shared}
end
section
variable {X:Cx}
end
noncomputable def fpl (l w:List Nat):Nat:=((List.range (l.length+1)).find? fun i=>decide (i+w.length≤l.length)&&decide ((l.drop i).take w.length=w)).getD 0
theorem Zke {l w:List Nat}{i:Nat}(h:AtW l w i)(hm:∀j,j<i→¬AtW l w j):fpl l w=i:=by
 unfold fpl
 have:((List.range (l.length+1)).find? fun i=>decide (i+w.length≤l.length)&&decide ((l.drop i).take w.length=w))=some i:=by
  rw[List.find?_range_eq_some]
  refine⟨by rw[decide_eq_true h.1,decide_eq_true h.2];rfl,YBA.mpr (by have:=h.1;omega),fun j hj=>?_⟩
  rw[Bool.not_eq_true',Bool.and_eq_false_iff,decide_eq_false_iff_not,decide_eq_false_iff_not]
  by_cases c:j+w.length≤l.length
  ·exact .inr fun z=>hm j hj ⟨c,z⟩
  ·exact .inl c
 rw[this];rfl
theorem Zfv {a b:List Nat}(h1:BefW a b)(h2:BefW b a):False:=by
 rcases h1 with h1 | ⟨h1,k1⟩<;>rcases h2 with h2 | ⟨h2,k2⟩
 ·omega
 ·omega
 ·omega
 ·exact List.lt_asymm k1 k2
theorem Zbx:∀ {a b:List (List Nat)},a.Pairwise BefW→b.Pairwise BefW→(∀x,x∈a↔x∈b)→a=b
 | [],[],_,_,_=>rfl
 | [],y::b,_,_,h=>by have:=(h y).mpr YAa;cases this
 | x::a,[],_,_,h=>by have:=(h x).mp YAa;cases this
 | x::a,y::b,ha,hb,h=>by
  have pa:=YBK.mp ha
  have pb:=YBK.mp hb
  have e:x=y:=by
   rcases YAK.mp ((h x).mp YAa) with z | z
   ·exact z
   ·rcases YAK.mp ((h y).mpr YAa) with z2 | z2
    ·exact z2.symm
    ·exact(Zfv (pb.1 x z) (pa.1 y z2)).elim
  subst e
  congr 1
  refine Zbx pa.2 pb.2 fun z=>?_
  constructor
  ·intro hz
   rcases YAK.mp ((h z).mp (YAW _ hz)) with e | e
   ·rw[e]at hz;exact(Zda (pa.1 x hz)).elim
   ·exact e
  ·intro hz
   rcases YAK.mp ((h z).mpr (YAW _ hz)) with e | e
   ·rw[e]at hz;exact(Zda (pb.1 x hz)).elim
   ·exact e
theorem ZfQ {x y:List Nat}(e:kTx x=kTx y):x=y:=by unfold kTx at e;injection e with e;injection e with e;injection e
def Ext (s L:List Nat):Prop:=(∃c,L=s++[c])∨∃c,L=c::s
theorem Ext.len {s L:List Nat}(h:Ext s L):L.length=s.length+1:=by
 rcases h with⟨c,rfl⟩|⟨c,rfl⟩<;>simp
theorem Ext.inf {s L:List Nat}(h:Ext s L):Inf s L:=by
 rcases h with⟨c,rfl⟩|⟨c,rfl⟩
 ·have:=Zgz (s++[c]);rwa [YCk]at this
 ·exact Zgy (c::s)
def Frs (s L w:List Nat):Prop:=Inf w L∧¬Inf w s
theorem Frs.ne {s L w:List Nat}(h:Frs s L w):w≠[]:=fun e=>h.2 (e▸Inf.nil s)
theorem Zeq (l:List Nat)(k:Nat):Inf (l.take k) l:=⟨0,by rw[YAb];omega,by rw[YBb,List.take_eq_take_iff,YAb];omega⟩
theorem Zer (l:List Nat)(k:Nat):Inf (l.drop k) l:=by
 by_cases h:k≤l.length
 ·exact⟨k,by rw[YAm];omega,by rw[YCp]⟩
 ·rw[YCV (by omega)];exact Inf.nil l
theorem Zc9 {s L w:List Nat}(h:Ext s L)(f:Frs s L w):((∃c,L=s++[c])∧w=L.drop (L.length-w.length))∨((∃c,L=c::s)∧w=L.take w.length):=by
 obtain⟨⟨i,h1,h2⟩,hn⟩:=f
 rcases h with⟨c,rfl⟩|⟨c,rfl⟩
 ·refine .inl ⟨⟨c,rfl⟩,?_⟩
  rw[YAF,YAp]at h1 ⊢
  have hi:i+w.length=s.length+1:=by
   by_cases z:i+w.length≤s.length
   ·refine absurd ⟨i,z,?_⟩ hn
    rw[YCS (by omega),List.take_append_of_le_length (by rw[YAm];omega)]at h2
    exact h2
   ·omega
  have e:s.length+1-w.length=i:=by omega
  rw[e]
  rw[YAq (by rw[YAm,YAF,YAp];omega)]at h2
  exact h2.symm
 ·refine .inr ⟨⟨c,rfl⟩,?_⟩
  cases i with
  | zero=>rw[YBb]at h2;exact h2.symm
  | succ i=>
   refine absurd ⟨i,?_,?_⟩ hn
   ·rw[YAn]at h1;omega
   ·rw[List.drop_succ_cons]at h2;exact h2
theorem Zir {s L w:List Nat}(h:Ext s L):Frs s L w↔(∃k,1≤k∧k≤L.length∧(w=L.take k∨w=L.drop (L.length-k)))∧¬Inf w s:=by
 constructor
 ·intro f
  have h1:1≤w.length:=YBj.mpr f.ne
  refine⟨⟨w.length,h1,f.1.len,?_⟩,f.2⟩
  rcases Zc9 h f with⟨_,e⟩|⟨_,e⟩
  ·exact .inr e
  ·exact .inl e
 ·rintro⟨⟨k,_,_,rfl | rfl⟩,hn⟩
  ·exact⟨Zeq _ _,hn⟩
  ·exact⟨Zer _ _,hn⟩
theorem Zfj {s L u v:List Nat}(h:Ext s L)(fu:Frs s L u)(fv:Frs s L v)(hl:u.length≤v.length):Inf u v:=by
 have l1:=fu.1.len
 have l2:=fv.1.len
 rcases Zc9 h fu with⟨⟨c,e⟩,eu⟩|⟨⟨c,e⟩,eu⟩
 ·rcases Zc9 h fv with⟨_,ev⟩|⟨⟨d,e2⟩,ev⟩
  ·have:u=v.drop (v.length-u.length):=by
    have:v.drop (v.length-u.length)=L.drop (L.length-u.length):=by
     conv=>lhs;rw[ev]
     rw[YCn,YAm]
     congr 1
     omega
    rw[this];exact eu
   rw[this];exact Zer _ _
  ·
   have hv:v.length=L.length:=by
    by_cases z:v.length=L.length
    ·exact z
    ·exfalso
     refine fv.2 ?_
     have:v=s.take v.length:=by
      conv=>lhs;rw[ev,e]
      rw[List.take_append_of_le_length]
      have:=h.len;omega
     rw[this];exact Zeq _ _
   have:v=L:=by rw[ev,hv,YCp]
   rw[this];exact fu.1
 ·rcases Zc9 h fv with⟨⟨d,e2⟩,ev⟩|⟨_,ev⟩
  ·have hv:v.length=L.length:=by
    by_cases z:v.length=L.length
    ·exact z
    ·exfalso
     refine fv.2 ?_
     have:v=s.drop (s.length-v.length):=by
      have h3:=h.len
      conv=>lhs;rw[ev,e]
      have e4:(c::s).length-v.length=(s.length-v.length)+1:=by rw[YAn];omega
      rw[e4,List.drop_succ_cons]
     rw[this];exact Zer _ _
   have:v=L:=by rw[ev,hv,Nat.sub_self,YBb]
   rw[this];exact fu.1
  ·have:u=v.take u.length:=by
    have:v.take u.length=L.take u.length:=by
     conv=>lhs;rw[ev]
     rw[YCT]
     congr 1
     omega
    rw[this];exact eu
   rw[this];exact Zeq _ _
theorem Zlr {s L u v:List Nat}(h:Ext s L)(fu:Frs s L u)(fv:Frs s L v)(hl:u.length=v.length):u=v:=Zka (Zfj h fu fv (by omega)) (by omega)
theorem ZfT {s L w0:List Nat}(h:Ext s L)(f0:Frs s L w0)(hm:∀w,Frs s L w→¬BefW w w0)(w:List Nat):Miss s w∧Inf w L↔w=w0:=by
 have sh:∀w,Frs s L w→w0.length≤w.length:=fun w f=>by
  by_cases z:w.length<w0.length
  ·exact absurd (.inl z) (hm w f)
  ·omega
 have ne:=f0.ne
 have l1:1≤w0.length:=YBj.mpr ne
 constructor
 ·rintro⟨ms,hi⟩
  have fw:Frs s L w:=⟨hi,ms.no⟩
  have hc:=Zfj h f0 fw (sh w fw)
  by_cases z:w0.length<w.length
  ·rcases Zlk hc z with k | k
   ·exact absurd (k.trans ms.init) f0.2
   ·exact absurd (k.trans ms.tail) f0.2
  ·exact(Zka hc (by omega)).symm
 ·rintro rfl
  have small:∀u,Inf u L→u.length<w.length→Inf u s:=fun u hu hl=>by
   by_cases z:Inf u s
   ·exact z
   ·have:=sh u ⟨hu,z⟩;omega
  exact⟨⟨ne,small _ ((Zgz w).trans f0.1) (by rw[YBI];omega),small _ ((Zgy w).trans f0.1) (by rw[List.length_tail];omega),f0.2⟩,f0.1⟩
noncomputable def shOf (s w:List Nat)[Decidable (Inf w.dropLast s)]:List Nat:=if Inf w.dropLast s then w.tail else w.dropLast
noncomputable instance (w l:List Nat):Decidable (Inf w l):=decidable_of_iff (∃i,i<l.length+1∧i+w.length≤l.length∧(l.drop i).take w.length=w) ⟨fun ⟨i,_,h⟩=>⟨i,h⟩,fun ⟨i,h⟩=>⟨i,by have:=h.1;omega,h⟩⟩
def Opn (s L m w:List Nat):Prop:=∃sh c,Frs s L sh∧c∈m∧(w=sh++[c]∨w=c::sh)∧Miss L w
theorem Zk0 {s L m w:List Nat}(h:Ext s L)(hm:∀x∈L,x∈m):Opn s L m w↔w∈ZaN L m∧w∉ZaN s m:=by
 constructor
 ·rintro⟨sh,c,f,hc,e,ms⟩
  refine⟨ZaV.mpr ⟨ms,?_⟩,fun hw=>?_⟩
  ·rcases e with rfl | rfl
   ·exact⟨c,hc,by simp⟩
   ·refine⟨sh.getLast f.ne,hm _ (f.1.mem (List.getLast_mem _)),?_⟩
    rw[YCR (by simp),List.getLast_cons f.ne]
  ·have k:=(ZaV.mp hw).1
   rcases e with rfl | rfl
   ·exact f.2 (by have:=k.init;rwa [YCk]at this)
   ·exact f.2 k.tail
 ·rintro⟨hw,hn⟩
  obtain⟨ms,c,hc,hl⟩:=ZaV.mp hw
  have ns:¬Inf w s:=fun z=>ms.no (z.trans h.inf)
  have hn':¬(Inf w.dropLast s∧Inf w.tail s):=fun ⟨a,b⟩=>hn (ZaV.mpr ⟨⟨ms.ne,a,b,ns⟩,c,hc,hl⟩)
  by_cases z:Inf w.dropLast s
  ·have z2:¬Inf w.tail s:=fun k=>hn' ⟨z,k⟩
   have f:Frs s L w.tail:=⟨ms.tail,z2⟩
   match w,ms,f with
   | d::r,ms,f=>
    have f:Frs s L r:=f
    refine⟨r,d,f,?_,.inr rfl,ms⟩
    match r,f.ne with
    | e::r,_=>exact hm _ (ms.init.mem (by simp))
  ·refine⟨w.dropLast,c,⟨ms.init,z⟩,hc,.inl ?_,ms⟩
   rw[YCR ms.ne]at hl
   have h2:=YDI ms.ne
   rw[Option.some.inj hl]at h2
   exact h2.symm
theorem Zms {s L w sh:List Nat}{c:Nat}(h:Ext s L)(f:Frs s L sh)(e:w=sh++[c]∨w=c::sh)(ms:Miss L w):shOf s w=sh:=by
 unfold shOf
 rcases e with rfl | rfl
 ·rw[YCk,YAJ f.2]
 ·by_cases z:Inf (c::sh).dropLast s
  ·rw[YAO z];rfl
  ·rw[YAJ z]
   exact Zlr h ⟨ms.init,z⟩ f (by rw[YBI];simp)
theorem Zfa {s L m w w0:List Nat}(h:Ext s L)(f0:Frs s L w0)(hmn:∀w,Frs s L w→¬BefW w w0)(hw:w∈ZaN s m):w∈ZaN L m↔w≠w0:=by
 obtain⟨ms,hc⟩:=ZaV.mp hw
 constructor
 ·rintro k rfl
  exact(ZaV.mp k).1.no ((ZfT h f0 hmn w).mpr rfl).2
 ·intro k
  have ni:¬Inf w L:=fun z=>k ((ZfT h f0 hmn w).mp ⟨ms,z⟩)
  exact ZaV.mpr ⟨⟨ms.ne,ms.init.trans h.inf,ms.tail.trans h.inf,ni⟩,hc⟩
theorem Zlu {s L m w0:List Nat}(h:Ext s L)(hm:∀x∈L,x∈m)(f0:Frs s L w0)(hmn:∀w,Frs s L w→¬BefW w w0):w0∈ZaN s m:=by
 have k:=(ZfT h f0 hmn w0).mpr rfl
 exact ZaV.mpr ⟨k.1,w0.getLast k.1.ne,hm _ (k.2.mem (List.getLast_mem _)),YCR _⟩
noncomputable def opnL (s L m:List Nat):List (List Nat):=(ZaN L m).filter fun w=>decide (w∉ZaN s m)
noncomputable def filL (s L m:List Nat):List (List Nat):=(ZaN s m).filter fun w=>decide (w∉ZaN L m)
theorem Zei {s L m w:List Nat}:w∈opnL s L m↔w∈ZaN L m∧w∉ZaN s m:=by unfold opnL;simp
theorem Zej {s L m w:List Nat}:w∈filL s L m↔w∈ZaN s m∧w∉ZaN L m:=by unfold filL;simp
theorem ZjB {s L m w0:List Nat}(h:Ext s L)(hm:∀x∈L,x∈m)(hr:m.Pairwise (· < ·))(f0:Frs s L w0)(hmn:∀w,Frs s L w→¬BefW w w0):filL s L m=[w0]:=by
 refine Zbx ((ZaT hr).filter _) (by simp) fun w=>?_
 rw[Zej,YAS]
 constructor
 ·rintro⟨a,b⟩
  by_cases z:w=w0
  ·exact z
  ·exact absurd ((Zfa h f0 hmn a).mpr z) b
 ·rintro rfl
  have k:=Zlu h hm f0 hmn
  exact⟨k,fun z=>(Zfa h f0 hmn k).mp z rfl⟩
theorem Zcg {ws ws':List (List Nat)}(pm:ws'.Perm ws)(pw:ws'.Pairwise fun a b=>¬BefW b a)(nd:ws.Nodup):ws'.Pairwise BefW:=by
 refine(pw.and (pm.nodup_iff.mpr nd)).imp ?_
 rintro a b ⟨h1,h2⟩
 rcases Nat.lt_trichotomy a.length b.length with z | z | z
 ·exact .inl z
 ·rcases Zh6 a b with k | k | k
  ·exact .inr ⟨z,k⟩
  ·exact absurd k h2
  ·exact absurd (.inr ⟨z.symm,k⟩) h1
 ·exact absurd (.inl z) h1
theorem Zcs {ws:List (List Nat)}(h:ws.Pairwise BefW):ws.Nodup:=h.imp fun hab e=>by rw[e]at hab;exact Zda hab
theorem Zlf {old new came gone ws':List (List Nat)}(ho:old.Pairwise BefW)(hn:new.Pairwise BefW)(hc:∀w,w∈came↔w∈new∧w∉old)(nc:came.Nodup)(hg:∀w,w∈gone↔w∈old∧w∉new)(pm:ws'.Perm (old.filter (fun w=>decide (w∉gone))++came))(pw:ws'.Pairwise fun a b=>¬BefW b a):ws'=new:=by
 have nd:(old.filter (fun w=>decide (w∉gone))++came).Nodup:=by
  rw[YDB]
  refine⟨(Zcs ho).filter _,nc,fun a ha b hb e=>?_⟩
  subst e
  exact((hc a).mp hb).2 (YCL.mp ha).1
 refine Zbx (Zcg pm pw nd) hn fun w=>?_
 rw[pm.mem_iff,YAe,YCL,hc,decide_eq_true_iff,hg]
 constructor
 ·rintro (⟨a,b⟩|⟨a,b⟩)
  ·by_cases z:w∈new
   ·exact z
   ·exact absurd ⟨a,z⟩ b
  ·exact a
 ·intro a
  by_cases z:w∈old
  ·exact .inl ⟨z,fun k=>k.2 a⟩
  ·exact .inr ⟨a,z⟩
theorem Zjr {m:List Nat}(hm:m.Pairwise (· < ·)):ZaN [] m=signs m:=by
 unfold signs
 refine Zbx (ZaT hm) ?_ fun w=>?_
 ·rw[YBi]
  exact hm.imp fun h=>.inr ⟨rfl,List.Lex.rel h⟩
 ·rw[ZaV,YBX]
  constructor
  ·rintro⟨ms,c,hc,hl⟩
   have h:=ms.init.len
   rw[YBI,List.length_nil]at h
   have h1:1≤w.length:=YBj.mpr ms.ne
   match w,h,h1,hl with
   | [d],_,_,hl=>exact⟨c,hc,by simpa using hl.symm⟩
  ·rintro⟨c,hc,rfl⟩
   exact⟨⟨by simp,Inf.nil _,Inf.nil _,fun z=>by have:=z.len;simp at this⟩,c,hc,rfl⟩
def Chg (S:List Addr)(H H':Hp):Prop:=∀b o,H b=some o→b∉S→Zeo o=false→H' b=some o
theorem SameL.chg {S:List Addr}{H H':Hp}(s:SameL H H'):Chg S H H':=fun b o e _ t=>s b o e t
theorem Same.chg {S:List Addr}{H H':Hp}(s:Same H H'):Chg S H H':=fun b o e _ _=>s b o e
theorem Chg.trans {S:List Addr}{H H1 H2:Hp}(a:Chg S H H1)(b:Chg S H1 H2):Chg S H H2:=fun c o e n t=>b c o (a c o e n t) n t
theorem Chg.upd {S:List Addr}{H:Hp}{a:Addr}{o:HO}(h:a∈S):Chg S H (upd H a o):=fun b u e n _=>by
 rw[Zae (show b≠a from fun z=>n (by rw[z];exact h))];exact e
theorem Chg.mono {S S':List Addr}{H H':Hp}(h:Chg S H H')(k:∀b∈S,b∈S'):Chg S' H H':=fun b o e n t=>h b o e (fun z=>n (k b z)) t
theorem Chg.l {H H':Hp}(h:Chg [] H H'):SameL H H':=fun b o e t=>h b o e (by simp) t
def Nw (H:Hp)(r:Addr):Prop:=∀o,H r=some o→Zeo o=true
theorem Nw.of {H:Hp}{r:Addr}(h:H r=none):Nw H r:=fun o e=>by rw[h]at e;cases e
theorem Nw.ne {H:Hp}{r b:Addr}{o:HO}(n:Nw H r)(h:H b=some o)(t:Zeo o=false):b≠r:=fun z=>by
 rw[z]at h
 rw[n o h]at t
 cases t
theorem Nw.l {H H1:Hp}{r:Addr}(n:Nw H1 r)(s:SameL H H1):Nw H r:=fun o e=>by
 cases t:Zeo o with
 | true=>rfl
 | false=>rw[←t];exact n o (s r o e t)
theorem Nw.same {H H1:Hp}{r:Addr}(n:Nw H1 r)(s:Same H H1):Nw H r:=n.l s.l
theorem Nw.chg {S:List Addr}{H H1:Hp}{r:Addr}(n:Nw H1 r)(c:Chg S H H1)(hS:∀b∈S,∃o,H1 b=some o∧Zeo o=false):Nw H r:=fun o e=>by
 by_cases z:r∈S
 ·obtain⟨u,hu,tu⟩:=hS r z
  exact absurd rfl (n.ne hu tu)
 ·cases t:Zeo o with
  | true=>rfl
  | false=>rw[←t];exact n o (c r o e z t)
noncomputable def Znm:HO→Bool
 | .ext _=>true
 | _=>false
theorem TblOk.upd {H:Hp}{P a:Addr}{pos:Pos}{q:Str}{o o':HO}(T:TblOk H P pos q)(h:H a=some o)(t:Zeo o=false)(x:Znm o=false):TblOk (L2.upd H a o') P pos q:=by
 obtain⟨ps,e,tr,hc⟩:=T
 refine⟨ps,?_,tr,hc.imp id ?_⟩
 ·rw[Zae (fun z=>by rw[z,h]at e;cases e;cases t)];exact e
 ·rintro⟨c,e1,e2⟩
  refine⟨c,e1,?_⟩
  rw[Zae (fun z=>by rw[z,h]at e2;unfold ZdP at e2;cases e2;cases x)];exact e2
theorem SqL.lL {K:PySem.W.Frag}{H H':Hp}{a:Addr}{xs:List V}(h:SqL K H a xs)(s:SameL H H'):SqL K H' a xs:=by
 rcases h with h | h
 ·rcases h with h | ⟨o,h⟩
  ·exact .inl (.inl (s _ _ h rfl))
  ·exact .inl (.inr ⟨o,s _ _ h rfl⟩)
 ·exact .inr h
def RowA (H:Hp)(y:V)(r:List Nat×List V):Prop:=∃a b,y=.ref a∧H a=some (.tup [tx r.1,.ref b])∧H b=some (.tup r.2)
def RowsA (H:Hp)(ys:List V)(rs:List (List Nat×List V)):Prop:=ys.length=rs.length∧∀(i:Nat) (y:V),ys[i]?=some y→∃r,rs[i]?=some r∧RowA H y r
theorem RowsA.chg {S:List Addr}{H H':Hp}{ys:List V}{rs:List (List Nat×List V)}(h:RowsA H ys rs)(c:Chg S H H')(hS:∀b∈S,∀us,H b≠some (.tup us)):RowsA H' ys rs:=by
 refine⟨h.1,fun i y hy=>?_⟩
 obtain⟨r,hr,a,b,e,h1,h2⟩:=h.2 i y hy
 exact⟨r,hr,a,b,e,c _ _ h1 (fun z=>hS _ z _ h1) rfl,c _ _ h2 (fun z=>hS _ z _ h2) rfl⟩
theorem RowsA.l {H H':Hp}{ys:List V}{rs:List (List Nat×List V)}(h:RowsA H ys rs)(s:SameL H H'):RowsA H' ys rs:=h.chg (S:=[]) s.chg (by simp)
noncomputable def Zdj (rs:List Nat)(s L m:List Nat):List (List Nat×List V):=(opnL s L m).map fun w=>(w,[tx rs,tx (shOf s w),.int (fpl L (shOf s w):Nat)])
noncomputable def ZdM (rs:List Nat)(s L m:List Nat):List (List Nat×List V):=(filL s L m).map fun w=>(w,[tx rs,.int (fpl L w:Nat)])
noncomputable def PUT:List Nat:=[112,117,116]
noncomputable def DROP:List Nat:=[100,114,111,112]
noncomputable def ZfW (d:Bool×Nat):List V:=[tx (if d.1 then PUT else DROP),tx [d.2]]
def DeedsA (H:Hp)(ts:List V)(ds:List (Bool×Nat)):Prop:=ts.length=ds.length∧∀(i:Nat) (y:V),ts[i]?=some y→∃d,ds[i]?=some d∧∃t,y=.ref t∧H t=some (.tup (ZfW d))
theorem DeedsA.chg {S:List Addr}{H H':Hp}{ts:List V}{ds:List (Bool×Nat)}(h:DeedsA H ts ds)(c:Chg S H H')(hS:∀b∈S,∀us,H b≠some (.tup us)):DeedsA H' ts ds:=by
 refine⟨h.1,fun i y hy=>?_⟩
 obtain⟨d,hd,t,e,ht⟩:=h.2 i y hy
 exact⟨d,hd,t,e,c _ _ ht (fun z=>hS _ z _ ht) rfl⟩
theorem DeedsA.snoc {H:Hp}{ts:List V}{ds:List (Bool×Nat)}{t:Addr}{d:Bool×Nat}(h:DeedsA H ts ds)(ht:H t=some (.tup (ZfW d))):DeedsA H (ts++[.ref t]) (ds++[d]):=by
 refine⟨by rw[YAF,YAF,h.1];rfl,fun i y hy=>?_⟩
 by_cases z:i<ts.length
 ·rw[YAi z]at hy
  obtain⟨d',hd,r⟩:=h.2 i y hy
  exact⟨d',by rw[YAi (by rw[←h.1];exact z)];exact hd,r⟩
 ·rw[YAg (by omega)]at hy
  have e:i-ts.length=0:=by
   rcases Nat.eq_zero_or_pos (i-ts.length) with q | q
   ·exact q
   ·rw[YBO (by simp;omega)]at hy;cases hy
  rw[e]at hy
  cases hy
  refine⟨d,?_,t,rfl,ht⟩
  rw[YAg (by rw[←h.1];omega),←h.1,e]
  rfl
theorem DeedsA.init {H:Hp}{ts:List V}{ds:List (Bool×Nat)}{d:Bool×Nat}(h:DeedsA H ts (ds++[d])):∃ts' t,ts=ts'++[.ref t]∧H t=some (.tup (ZfW d))∧DeedsA H ts' ds:=by
 have hl:ts.length=ds.length+1:=by rw[h.1];simp
 have ne:ts≠[]:=fun e=>by rw[e]at hl;simp at hl
 have e:=YDI ne
 have hlast:ts[ds.length]?=some (ts.getLast ne):=by
  rw[List.getLast_eq_getElem,YAM (by omega)]
  congr 2
  omega
 obtain⟨d',hd,t,et,ht⟩:=h.2 _ _ hlast
 rw[YAg (YAQ _),Nat.sub_self]at hd
 cases hd
 refine⟨ts.dropLast,t,by rw[←et];exact e.symm,ht,by rw[YBI];omega,fun i y hy=>?_⟩
 rw[YDE,YCX]at hy
 by_cases z:i<ts.length-1
 ·rw[YAO z]at hy
  obtain⟨d',hd,r⟩:=h.2 i y hy
  rw[YAi (by omega)]at hd
  exact⟨d',hd,r⟩
 ·rw[YAJ z]at hy;cases hy
inductive Run (m:List Nat):List (Bool×Nat)→List Nat→Prop
 | nil:Run m [] []
 | put {ds:List (Bool×Nat)} {l:List Nat} {c:Nat} (h:Run m ds l) (hc:c∈m) (hl:l.length<40):Run m (ds++[(true,c)]) (l++[c])
 | drop {ds:List (Bool×Nat)} {l:List Nat} {c:Nat} (h:Run m ds (c::l)):Run m (ds++[(false,c)]) l
theorem Run.len {m:List Nat}{ds:List (Bool×Nat)}{l:List Nat}(h:Run m ds l):l.length≤40:=by
 induction h with
 | nil=>simp
 | put h hc hl ih=>simp;omega
 | drop h ih=>simp at ih;omega
theorem Run.mem {m:List Nat}{ds:List (Bool×Nat)}{l:List Nat}(h:Run m ds l):∀x∈l,x∈m:=by
 induction h with
 | nil=>intro x hx;cases hx
 | put h hc hl ih=>
  intro x hx
  rcases YAe.mp hx with hx | hx
  ·exact ih x hx
  ·rw[YAS.mp hx];exact hc
 | drop h ih=>exact fun x hx=>ih x (YAW _ hx)
theorem Run.last {m:List Nat}{ds':List (Bool×Nat)}{l:List Nat}(h:Run m ds' l)(ne:ds'≠[]):∃ds c,(ds'=ds++[(true,c)]∧∃l0,l=l0++[c]∧Run m ds l0)∨(ds'=ds++[(false,c)]∧Run m ds (c::l)):=by
 cases h with
 | nil=>exact absurd rfl ne
 | put h hc hl=>exact⟨_,_,.inl ⟨rfl,_,rfl,h⟩⟩
 | drop h=>exact⟨_,_,.inr ⟨rfl,h⟩⟩
noncomputable def sF (l m:List Nat)(la da:Addr):List (Str×V):=[("own_text",tx l),("own_kinds",tx m),("own_lacking",.ref la),("own_deeds",.ref da)]
theorem f_tk:¬(("own_text":Str)="own_kinds"):=by decide +kernel
theorem f_tl:¬(("own_text":Str)="own_lacking"):=by decide +kernel
theorem f_td:¬(("own_text":Str)="own_deeds"):=by decide +kernel
theorem f_kl:¬(("own_kinds":Str)="own_lacking"):=by decide +kernel
theorem f_kd:¬(("own_kinds":Str)="own_deeds"):=by decide +kernel
theorem f_ld:¬(("own_lacking":Str)="own_deeds"):=by decide +kernel
theorem Zgk {f:Str}{v x:V}{r:List (Str×V)}:putF f v ((f,x)::r)=(f,v)::r:=by unfold putF;rw[YAO rfl]
theorem Zbf {f g:Str}{v x:V}{r:List (Str×V)}(h:¬g=f):putF f v ((g,x)::r)=(g,x)::putF f v r:=by
 conv=>lhs;unfold putF
 rw[YAJ h]
theorem ZkM {l l' m:List Nat}{la da:Addr}:putF "own_text" (tx l') (sF l m la da)=sF l' m la da:=Zgk
theorem ZkN {l m:List Nat}{la la' da:Addr}:putF "own_lacking" (.ref la') (sF l m la da)=sF l m la' da:=by
 unfold sF
 rw[Zbf f_tl,Zbf f_kl,Zgk]
theorem ZjW {l m:List Nat}{la da:Addr}:putF "own_deeds" (.ref da) (putF "own_lacking" (.ref la) (putF "own_kinds" (tx m) (putF "own_text" (tx l) [])))=sF l m la da:=by
 have e2:∀(f:Str) (v:V),putF f v []=[(f,v)]:=fun _ _=>rfl
 rw[e2,Zbf f_tk,e2,Zbf f_tl,Zbf f_kl,e2,Zbf f_td,Zbf f_kd,Zbf f_ld,e2]
 rfl
theorem ZeP {l m:List Nat}{la da:Addr}:sF l m la da=putF "own_deeds" (.ref da) (putF "own_lacking" (.ref la) (putF "own_kinds" (tx m) (putF "own_text" (tx l) []))):=ZjW.symm
theorem Za3 {l m:List Nat}{la da:Addr}:(sF l m la da).lookup ("own_text":Str)=some (tx l):=by rw[ZeP,Zar,YAJ f_td,Zar,YAJ f_tl,Zar,YAJ f_tk,Zar,YAO rfl]
theorem Zck {l m:List Nat}{la da:Addr}:(sF l m la da).lookup ("own_kinds":Str)=some (tx m):=by rw[ZeP,Zar,YAJ f_kd,Zar,YAJ f_kl,Zar,YAO rfl]
theorem Zi4 {l m:List Nat}{la da:Addr}:(sF l m la da).lookup ("own_lacking":Str)=some (.ref la):=by rw[ZeP,Zar,YAJ f_ld,Zar,YAO rfl]
theorem ZbS {l m:List Nat}{la da:Addr}:(sF l m la da).lookup ("own_deeds":Str)=some (.ref da):=by rw[ZeP,Zar,YAO rfl]
theorem ZoS {l m:List Nat} {la da:Addr} {x:Str} (h1:¬x="own_text") (h2:¬x="own_kinds") (h3:¬x="own_lacking") (h4:¬x="own_deeds"):(sF l m la da).lookup x=none:=by
 rw[ZeP,Zar,YAJ h4,Zar,YAJ h3,Zar,YAJ h2,Zar,YAJ h1]
 rfl
noncomputable def LETx:List Nat:=[97,98,99,100,101,102,103,104,105,106,107,108,109,110,111,112,113,114,115,116,117,118,119,120,121,122]
noncomputable def iskx (l:List Nat):Bool:=decide (1≤l.length)&&decide (l.length≤4)&&(l.all fun c=>LETx.contains c)&&decide (signs l=Za4 (ddl (signs l)))
def ZcX (C:Addr)(H:Hp)(p la da:Addr)(l m:List Nat):Prop:=∃dx,H p=some (.ins C dx (sF l m la da))
structure KindsOk (m:List Nat):Prop where
 k:iskx m=true
 m1:1≤m.length
 m4:m.length≤4
 rise:m.Pairwise (· < ·)
structure StripAt (C:Addr)(H:Hp)(p la da:Addr)(l m:List Nat)(ds:List (Bool×Nat)):Prop where
 fld:ZcX C H p la da l m
 lack:H la=some (.lst ((ZaN l m).map tx))
 deed:∃ts,H da=some (.lst ts)∧DeedsA H ts ds
 run:Run m ds l
 ok:KindsOk m
 ne:la≠da
theorem StripAt.chg {S:List Addr}{C:Addr}{H H':Hp}{p la da:Addr}{l m:List Nat}{ds:List (Bool×Nat)}(h:StripAt C H p la da l m ds)(c:Chg S H H')(hS:∀b∈S,∀us,H b≠some (.tup us))(n1:p∉S)(n2:la∉S)(n3:da∉S):StripAt C H' p la da l m ds:=by
 obtain⟨⟨dx,f⟩,k,⟨ts,d1,d2⟩,r,o,n⟩:=h
 exact⟨⟨dx,c _ _ f n1 rfl⟩,c _ _ k n2 rfl,⟨ts,c _ _ d1 n3 rfl,d2.chg c hS⟩,r,o,n⟩
theorem StripAt.l {C:Addr}{H H':Hp}{p la da:Addr}{l m:List Nat}{ds:List (Bool×Nat)}(h:StripAt C H p la da l m ds)(s:SameL H H'):StripAt C H' p la da l m ds:=h.chg (S:=[]) s.chg (by simp) (by simp) (by simp) (by simp)
theorem StripAt.same {C:Addr}{H H':Hp}{p la da:Addr}{l m:List Nat}{ds:List (Bool×Nat)}(h:StripAt C H p la da l m ds)(s:Same H H'):StripAt C H' p la da l m ds:=h.l s.l
structure AnsS (H H2:Hp)(t c g la:Addr)(rc rg:List (List Nat×List V)):Prop where
 tup:H2 t=some (.tup [.ref c,.ref g])
 came:∃ys,H2 c=some (.lst ys)∧RowsA H2 ys rc
 went:∃zs,H2 g=some (.lst zs)∧RowsA H2 zs rg
 nc:Nw H c
 ng:Nw H g
 nl:Nw H la
 ncg:c≠g
 ncl:c≠la
 ngl:g≠la
end L2
namespace L2
open PySem PySem.Spec PyProof.Rows
open PySem.W (Frag)
section
variable {tt:TT}{te:TE}{Q:VK}{τ0:St}{H:Hp}{K:Frag}{a:Addr}{xs:List V}
theorem CompRun.dataF (b:Nat→Bool)(D:Hp→V→Nat→Prop)(mono:∀H H' y i,(∀c us,H c=some (.tup us)→H' c=some (.tup us))→D H y i→D H' y i)(hz:xs.length≤100000)(hx:SqL K H a xs)
  (ht:∀i H' Q' (h:i<xs.length),Same H H'→(∀H'',Same H' H''→Q' (b i) H'')→tt (τ0.set 0 (some (xs.getD i .non))) H' Q')
  (he:∀i H' Q' (h:i<xs.length),b i=true→Same H H'→(∀y H'',Same H' H''→D H'' y i→Q' y H'')→te (τ0.set 0 (some (xs.getD i .non))) H' Q')
  (hQ:∀p ys H',Same H H'→H p=none→H' p=some (.lst ys)→ys.length=((List.range xs.length).filter b).length→(∀(k:Nat) (y:V),ys[k]?=some y→∃i,((List.range xs.length).filter b)[k]?=some i∧D H' y i)→Q (.ref p) H'):CompRun (Itl K a) τ0 (ZcZ 0) tt te H Q:=by
 intro acc ha
 refine⟨fun i m τ H2=>i≤xs.length∧m=xs.length-i∧(∀w:Option V,τ.set 0 w=τ0.set 0 w)∧Same H H2∧∃ys,H2 acc=some (.lst ys)∧ys.length=((List.range i).filter b).length∧∀(k:Nat) (y:V),ys[k]?=some y→∃j,((List.range i).filter b)[k]?=some j∧D H2 y j,
  ⟨xs.length,YAz _,rfl,fun _=>rfl,Zaz ha,[],Zad,rfl,fun i y h=>by simp at h⟩,?_⟩
 rintro i m τ H2 ⟨hi,rfl,hτ,hs,ys,hacc,hlen,hall⟩
 by_cases hlt:i<xs.length
 ·refine .inr ⟨⟨xs,xs[i],hs.seq hx,by simp[hlt]⟩,fun τ' H'=>(∀w:Option V,τ'.set 0 w=τ0.set 0 w)∧Same H H'∧∃ys,H' acc=some (.lst ys)∧ys.length=((List.range (i+1)).filter b).length∧∀(k:Nat) (y:V),ys[k]?=some y→∃j,((List.range (i+1)).filter b)[k]?=some j∧D H' y j,fun τ' H' q=>⟨xs.length-(i+1),by omega,hlt,rfl,q⟩,fun x H3 y=>?_⟩
  obtain⟨rfl,y⟩:=y
  have ex:x=xs.getD i .non:=by rw[YAU,y xs (hs.seq hx)];rfl
  subst ex
  show tt (τ.set 0 (some (xs.getD i .non))) _ _
  rw[hτ]
  have hτ':∀w:Option V,(τ0.set 0 (some (xs.getD i .non))).set 0 w=τ0.set 0 w:=fun w=>by rw[List.set_set]
  refine ht i _ _ hlt hs fun H4 s4=>?_
  cases hb:b i with
  | false=>
   rw[YAJ YAC]
   have ef:(List.range (i+1)).filter b=(List.range i).filter b:=by rw[YBq,YCZ];simp[hb]
   refine⟨hτ',hs.trans s4,ys,s4 _ _ hacc,by rw[ef];exact hlen,fun k y hy=>?_⟩
   obtain⟨j,h1,h2⟩:=hall k y hy
   exact⟨j,by rw[ef];exact h1,mono _ _ _ _ (fun c us e=>s4 _ _ e) h2⟩
  | true=>
   rw[YAO rfl]
   have ef:(List.range (i+1)).filter b=(List.range i).filter b++[i]:=by rw[YBq,YCZ];simp[hb]
   have fl:=YAt b (List.range i)
   rw[YBV]at fl
   refine he i _ _ hlt hb (hs.trans s4) fun y H5 s5 hD=>⟨ys,s5 _ _ (s4 _ _ hacc),by rw[hlen,sizeLine_eq];omega,hτ',same_upd3' ha ((hs.trans s4).trans s5),ys++[y],Zad,by rw[ef,YAF,YAF,hlen];rfl,fun k z hz'=>?_⟩
   have ne:∀c us,H5 c=some (.tup us)→upd H5 acc (.lst (ys++[y])) c=some (.tup us):=fun c us h=>by
    rw[Zae (fun e=>by rw[e,s5 _ _ (s4 _ _ hacc)]at h;cases h)];exact h
   rw[ef]
   by_cases hk:k<ys.length
   ·rw[YAi hk]at hz'
    obtain⟨j,h1,h2⟩:=hall k z hz'
    exact⟨j,by rw[YAi (by rw[←hlen];exact hk)];exact h1,mono _ _ _ _ ne (mono _ _ _ _ (fun c us e=>s5 _ _ (s4 _ _ e)) h2)⟩
   ·rw[YAg (by omega)]at hz'
    have hk':k-ys.length=0:=by
     rcases Nat.eq_zero_or_pos (k-ys.length) with h | h
     ·exact h
     ·rw[YBO (by simp;omega)]at hz';cases hz'
    rw[hk']at hz'
    cases hz'
    exact⟨i,by rw[YAg (by rw[←hlen];omega),←hlen,hk'];rfl,mono _ _ _ _ ne hD⟩
 ·have e:i=xs.length:=by omega
  subst e
  exact .inl ⟨⟨xs,hs.seq hx,YAQ _⟩,hQ acc ys H2 hs ha hacc hlen hall⟩
end
end L2
namespace L2
open PySem PySem.Spec PyProof.Rows
section
variable {X:Cx}{tg:Expr}
end
noncomputable abbrev zl1 (h:Heap)(l:Addr):Heap:=h.push { cls:=.type "list_iterator",data:=.fields #[.ref l,.int 0 0] }
noncomputable abbrev zl2 (h:Heap)(l m:Addr):Heap:=(zl1 h l).push { cls:=.type "list_iterator",data:=.fields #[.ref m,.int 0 0] }
noncomputable abbrev zl3 (h:Heap)(l m:Addr):Heap:=(zl2 h l m).push { cls:=.type "tuple",data:=.seq #[.ref h.objs.size,.ref (zl1 h l).objs.size] }
noncomputable abbrev zl4 (h:Heap)(l m:Addr):Heap:=(zl3 h l m).push { cls:=.type "tuple",data:=.seq #[.none,.none] }
noncomputable abbrev zl5 (h:Heap)(l m:Addr):Heap:=(zl4 h l m).push { cls:=.type "zip",data:=.fields #[.none,.bool false,.bool false,.ref (zl2 h l m).objs.size,.ref (zl3 h l m).objs.size] }
theorem Zg7 (l m:Addr)(xs ys:Array Value):Meets (Builtin.«zip.__new__» ⟨[.type "zip",.ref l,.ref m],[]⟩) (fun _ R s=>s.heap.IsList l xs∧s.heap.IsList m ys∧R (.ok (.ret (.ref (zl4 s.heap l m).objs.size))) { s with heap:=zl5 s.heap l m }):=
 .of_wp fun prog w A R s h=>by
  obtain⟨hp,g,d,tk,os⟩:=s
  obtain⟨p1,p2,h⟩:=h
  have hsub:=sub_zip
  have L1:Heap.IsList (Shared.heap ⟨hp,g,d,tk,os⟩) l xs:=p1
  have L2:Heap.IsList (Shared.heap ⟨hp.push { cls:=.type "list_iterator",data:=.fields #[.ref l,.int 0 0] },g,d,tk,os⟩) m ys:=Heap.IsList.push p2 _
  wp_walk using YDA L1,YDA L2
  exact⟨_,rfl,h⟩
theorem ZiG {prog:Program}{w:World}{A:Around}{E:Value→Shared→Prop}{s:Shared}{l m:Addr}{xs ys:Array Value}{Q:Value→Shared→Prop}(p1:s.heap.IsList l xs)(p2:s.heap.IsList m ys)
  (q:∀h',IsZip h' (s.heap.objs.size+4) (s.heap.objs.size+2) (s.heap.objs.size+3) .none→IsPair h' (s.heap.objs.size+2) (.ref s.heap.objs.size) (.ref (s.heap.objs.size+1))→IsPair h' (s.heap.objs.size+3) .none .none →
   h'.IsListIter s.heap.objs.size l 0→h'.IsListIter (s.heap.objs.size+1) m 0→(∀c o,s.heap.get? c=some o→h'.get? c=some o)→Q (.ref (s.heap.objs.size+4)) { s with heap:=h' }):
  wpAny (model prog w) A (call (.type "zip") [.ref l,.ref m]) Q E s:=by
 refine callType_new F.called_zip (by decide) (F.typeCall_zip_2 _ _) (F.newCall_zip_2 _ _) (fun obj=>F.args_object_init_3 obj _ _) F.entry_zip_new (Zg7 l m xs ys) ⟨p1,p2,?_⟩
 have e1:(zl1 s.heap l).objs.size=s.heap.objs.size+1:=YAs ..
 have e2:(zl2 s.heap l m).objs.size=s.heap.objs.size+2:=by rw[YAs,e1]
 have e3:(zl3 s.heap l m).objs.size=s.heap.objs.size+3:=by rw[YAs,e2]
 have e4:(zl4 s.heap l m).objs.size=s.heap.objs.size+4:=by rw[YAs,e3]
 have g5:(zl5 s.heap l m).get? (zl4 s.heap l m).objs.size=some _:=YAG _ rfl
 have g4:(zl5 s.heap l m).get? (zl3 s.heap l m).objs.size=some _:=YAB _ (YAG _ rfl)
 have g3:(zl5 s.heap l m).get? (zl2 s.heap l m).objs.size=some _:=YAB _ (YAB _ (YAG _ rfl))
 have g2:(zl5 s.heap l m).get? (zl1 s.heap l).objs.size=some _:=YAB _ (YAB _ (YAB _ (YAG _ rfl)))
 have g1:(zl5 s.heap l m).get? s.heap.objs.size=some _:=YAB _ (YAB _ (YAB _ (YAB _ (YAG _ rfl))))
 show _∧_
 rw[e2,e3,e4]at g5
 rw[e1,e2]at g3
 rw[e3]at g4
 rw[e1]at g2
 rw[e4]
 exact⟨⟨_,g5,rfl⟩,q _ g5 g3 g4 ⟨_,g1,rfl,rfl⟩ ⟨_,g2,rfl,rfl⟩ fun c o x=>YAB _ (YAB _ (YAB _ (YAB _ (YAB _ x))))⟩
noncomputable def ItzL (K:PySem.W.Frag)(a b:Addr):It:=
  ⟨fun i H=>∃xs ys x y,SqL K H a xs∧SqL K H b ys∧xs.length=ys.length∧xs[i]?=some x∧ys[i]?=some y,
   fun i H v H'=>∃p x y,H p=none∧v=.ref p∧H'=upd H p (.tup [x,y])∧(∀xs,SqL K H a xs→xs[i]?=some x)∧∀ys,SqL K H b ys→ys[i]?=some y,
   fun i H=>∃xs ys,SqL K H a xs∧SqL K H b ys∧xs.length=ys.length∧xs.length=i⟩
theorem Zhv {P:Program}{w:World}{K:PySem.W.Frag}{es:List Expr}{x1:Nat}{tp:Pos}(a b z:Addr)(hz:a<z∧b<z):Turn P w K (.Tuple es x1 tp) (ItzL K a b) [z+4,z+2,z+3,z,z+1] (z+4)
  (fun i h=>IsZip h (z+4) (z+2) (z+3) .none∧IsPair h (z+2) (.ref z) (.ref (z+1))∧(∃u v,IsPair h (z+3) u v)∧h.IsListIter z a i∧h.IsListIter (z+1) b i) where
 mem:=by simp
 obj:=fun i h st c hc=>by
  obtain⟨s1,s2,⟨u,v,s3⟩,⟨o4,s4,c4,d4⟩,⟨o5,s5,c5,d5⟩⟩:=st
  simp only[YAK,YBn,or_false]at hc
  rcases hc with e | e | e | e | e
  ·exact⟨_,e▸s1,fun v q=>by cases (show Data.fields _=Data.cell v from q)⟩
  ·exact⟨_,e▸s2,fun v q=>by cases (show Data.seq _ _=Data.cell v from q)⟩
  ·exact⟨_,e▸s3,fun v q=>by cases (show Data.seq _ _=Data.cell v from q)⟩
  ·exact⟨o4,e▸s4,fun v q=>by rw[d4]at q;cases q⟩
  ·exact⟨o5,e▸s5,fun v q=>by rw[d5]at q;cases q⟩
 keep:=fun i h h' st k=>by
  obtain⟨s1,s2,⟨u,v,s3⟩,s4,s5⟩:=st
  exact⟨k _ (by simp) _ s1,k _ (by simp) _ s2,⟨u,v,k _ (by simp) _ s3⟩,s4.at fun o q=>k _ (by simp) o q,s5.at fun o q=>k _ (by simp) o q⟩
 item:=by
  intro X hP hw hK hc i pins s σ H E I hf st hg
  subst hP hw hK
  obtain⟨s1,s2,⟨u,v,s3⟩,s4,s5⟩:=st
  obtain⟨xs,ys,x,y,ha,hb,hl,hx,hy⟩:=hg
  obtain⟨is,ri,pi',_⟩:=I.list ha
  have pi:=pi'.isList
  obtain⟨js,rj,pj',_⟩:=I.list hb
  have pj:=pj'.isList
  have li:is.toArray.size=xs.length:=by rw[YAI,ri.length]
  have lj:js.toArray.size=xs.length:=by rw[YAI,hl,rj.length]
  have hh:X.A.in1.handled=none:=by simpa using I.ok.hd hc
  have D1:=Draws.list (prog:=X.prog) (w:=X.w) (A:=X.A.in1) hh z a (YAX hz.1) is.toArray
  have D2:=Draws.list (prog:=X.prog) (w:=X.w) (A:=X.A.in1) hh (z+1) b (YAX (YCK hz.2)) js.toArray
  rw[li]at D1
  rw[lj]at D2
  have hi:i<xs.length:=(YAc.mp hx).1
  have ap:Zap (z+4) (z+2) (z+3) z (z+1) [z,a] [z+1,b]:=Zf7 a b z hz.1 hz.2
  have sz:z+4<s.heap.objs.size:=YAH s1
  refine ZcP ap D1 D2 hi s1 s2 s3 ⟨s4,pi⟩ ⟨s5,pj⟩ fun u1 u2 h' tk q1 q2 y1 y2 y3 y4 y5 y6=>?_
  refine⟨_,rfl,?_⟩
  refine wpAny_letOwnedTupleGo_zip (s:={ s with heap:=h',toks:=tk }) y1 fun h2 o2 sb=>?_
  obtain⟨x',hx',rx⟩:=ZcE ri (show is[i]?=some u1 by simpa using q1)
  obtain⟨y',hy',ry⟩:=ZcE rj (show js[i]?=some u2 by simpa using q2)
  obtain rfl:x=x':=Option.some.inj (hx.symm.trans hx')
  obtain rfl:y=y':=Option.some.inj (hy.symm.trans hy')
  have hfr:=I.fresh
  replace sb:Heap.SameBut (z+4) h' h2:=sb
  have k2:∀c o,c∉[z+4,z+2,z+3,z,z+1]→s.heap.get? c=some o→h2.get? c=some o:=fun c o hc q=>by
   simp only[YAK,YBn,or_false,not_or]at hc
   exact(sb.2 c hc.1).trans (y6 c o hc.1 hc.2.2.1 hc.2.2.2.1 hc.2.2.2.2 q)
  have I1:Inv X pins σ H { s with heap:=h2,toks:=tk }:=I.turnedN (t':=tk) k2 hf
  have t2:IsPair h2 s.heap.objs.size u1 u2:=(sb.2 _ (YCu sz)).trans y5
  have fp:=I.fpOk (H':=H) (YAQ _) hfr
  have up:∀c o,c≠z+4→h'.get? c=some o→h2.get? c=some o:=fun c o n q=>(sb.2 c n).trans q
  refine⟨.ref s.heap.objs.size,upd H s.heap.objs.size (.tup [x,y]),I1.track fp I.sz ?_,rfl,⟨_,x,y,hfr,rfl,rfl,fun xs' h=>by rw[I.list_inj h ha];exact hx,fun ys' h=>by rw[I.list_inj h hb];exact hy⟩,⟨o2,?_,⟨u1,u2,up _ _ ap.a2 y2⟩,?_,?_⟩,fun c hc=>?_⟩
  ·exact⟨by show 2≤sizeLine;rw[sizeLine_eq];decide,[u1,u2],.cons rx (.cons ry .nil),⟨_,t2,rfl,_,rfl⟩⟩
  ·exact up _ _ ap.a1 (y6 _ _ ap.a1 ap.a5 ap.a6 ap.a7 s2)
  ·exact y3.1.at fun o q=>up _ _ ap.a3 q
  ·exact y4.1.at fun o q=>up _ _ ap.a4 q
  ·have hc':=hf c hc
   have:c≠s.heap.objs.size:=YAX (YCW (mem5 hc).2 sz)
   rw[Zae this];exact hc'.1
 done:=by
  intro X hP hw hK hc i pins s σ H E I hf st hg
  subst hP hw hK
  obtain⟨s1,s2,⟨u,v,s3⟩,s4,s5⟩:=st
  obtain⟨xs,ys,ha,hb,hl,rfl⟩:=hg
  obtain⟨is,ri,pi',_⟩:=I.list ha
  have pi:=pi'.isList
  have li:is.toArray.size=xs.length:=by rw[YAI,ri.length]
  have hh:X.A.in1.handled=none:=by simpa using I.ok.hd hc
  have D1:=Draws.list (prog:=X.prog) (w:=X.w) (A:=X.A.in1) hh z a (YAX hz.1) is.toArray
  rw[li]at D1
  have ap:Zap (z+4) (z+2) (z+3) z (z+1) [z,a] [z+1,b]:=Zf7 a b z hz.1 hz.2
  refine Zdb ap D1 s1 s2 ⟨s4,pi⟩ fun h' k=>⟨rfl,I.turnedN (t':=s.toks) (fun c o hc q=>k c o (fun e=>hc (by simp[e])) (fun e=>hc (by simp[e])) q) hf⟩
 self:=fun _ _ _ _ _ st h=>wpAny_pyIter_zip st.1 h
section
variable {X:Cx}{es:List Expr}{x1:Nat}{tp:Pos}
end
end L2
namespace L2
open PySem PySem.Spec PyProof.Rows
open PySem.W (Frag)
theorem ForRun.zipL {g:TG}{tb:TS}{D:Ends}{σ:St}{H:Hp}{K:Frag}{a b:Addr}{xs ys:List V}(he:xs.length=ys.length)(Pv:Nat→St→Hp→Prop)(h0:Pv 0 σ H)(hl:∀i σ H,i≤xs.length→Pv i σ H→SqL K H a xs∧SqL K H b ys)
  (hs:∀i x y p σ H,xs[i]?=some x→ys[i]?=some y→Pv i σ H→H p=none→g (.ref p) σ (upd H p (.tup [x,y])) fun σ2 H2=>tb { D with nx:=Pv (i+1),ct:=Pv (i+1),bk:=D.nx } σ2 H2) (hd:∀σ H,Pv xs.length σ H→D.nx σ H):
  ForRun (ItzL K a b) g tb D σ H:=by
 refine⟨fun i m σ H=>m=xs.length-i∧i≤xs.length∧Pv i σ H,⟨xs.length,by simp,YAz _,h0⟩,?_⟩
 rintro i m σ H ⟨rfl,hi,p⟩
 obtain⟨q1,q2⟩:=hl i σ H hi p
 by_cases hlt:i<xs.length
 ·have ly:i<ys.length:=by omega
  refine .inr ⟨⟨xs,ys,xs[i],ys[i],q1,q2,he,by simp[hlt],by simp[ly]⟩,Pv (i+1),fun σ' H' p'=>⟨xs.length-(i+1),by omega,rfl,hlt,p'⟩,fun x H' y=>?_⟩
  obtain⟨pt,u,v,hn,rfl,rfl,hu,hv⟩:=y
  exact hs i u v pt σ H (hu xs q1) (hv ys q2) p hn
 ·have e:i=xs.length:=by omega
  subst e
  exact .inl ⟨⟨xs,ys,q1,q2,he,rfl⟩,hd σ H p⟩
section
variable {X:Cx}{es:List Expr}{x1:Nat}{tp:Pos}
def Zno (K:PySem.W.Frag)(ta:TA):TI:=fun σ H R=>ta σ H fun vs H1=>∃a b,vs=[.ref a,.ref b]∧(((∃xs,SqT K H1 a xs)∧(∃ys,SqT K H1 b ys)∧R (Itz K a b) H1)∨((∃xs,SqL K H1 a xs)∧(∃ys,SqL K H1 b ys)∧R (ItzL K a b) H1))
theorem ZhR {K:PySem.W.Frag} {l m:Expr} {ta:TA} {p pos:Pos} (hK:X.K=K) (hg:Gl X "zip") (hm:X.mg "zip"=none) (ha:PA X [l,m] ta) (hs:starEach [l,m] X.env=(false,eval l X.env)::starEach [m] X.env:=by rfl) (hpl:(backTo pos (starEach [m] X.env)).any (·.1)=false:=by rfl):
  PI X (.Tuple es x1 tp) (.Call (.Name "zip" p) [l,m] [] pos) (Zno K ta):=by
 subst hK
 intro pins s σ H R I h
 refine Call_ (Zdu I hg hm ZnD (YCb (thn (ha pos pins s σ H _ I h) fun us s1 ⟨vs,H1,I1,r1,a,b,ev,qq⟩=>?_) hs hpl))
 subst ev
 obtain⟨u,v,rfl,ru,rv⟩:=r1.two
 cases ru
 cases rv
 rcases qq with⟨⟨xs,hq⟩,⟨ys,hr⟩,q⟩|⟨⟨xs,hq⟩,⟨ys,hr⟩,q⟩
 ·skip
  obtain⟨is,_,pi,_⟩:=I1.tuple hq
  obtain⟨js,_,pj,_⟩:=I1.tuple hr
  obtain⟨oa,hoa,_⟩:=id pi
  obtain⟨ob,hob,_⟩:=id pj
  refine ZiF pi pj fun h' e1 e2 e3 e4 e5 k1=>?_
  have I2:Inv X pins σ H1 { s1 with heap:=h' }:=I1.kept (t':=s1.toks) k1
  refine wpAny_pyIter_zip (s:={ s1 with heap:=h' }) e1 ?_
  refine⟨s1.heap.objs.size+4,_,_,_,H1,rfl,I2,ZiQ a b s1.heap.objs.size ⟨YAH hoa,YAH hob⟩,⟨e1,e2,⟨_,_,e3⟩,e4,e5⟩,fun c hc=>?_,q⟩
  have hb':s1.heap.objs.size≤c:=(mem5 hc).1
  exact I1.fpOk hb' (I1.hok.fresh hb')
 ·skip
  obtain⟨is,_,pi',_⟩:=I1.list hq
  have pi:=pi'.isList
  obtain⟨js,_,pj',_⟩:=I1.list hr
  have pj:=pj'.isList
  obtain⟨oa,hoa,_⟩:=id pi
  obtain⟨ob,hob,_⟩:=id pj
  refine ZiG pi pj fun h' e1 e2 e3 e4 e5 k1=>?_
  have I2:Inv X pins σ H1 { s1 with heap:=h' }:=I1.kept (t':=s1.toks) k1
  refine wpAny_pyIter_zip (s:={ s1 with heap:=h' }) e1 ?_
  refine⟨s1.heap.objs.size+4,_,_,_,H1,rfl,I2,Zhv a b s1.heap.objs.size ⟨YAH hoa,YAH hob⟩,⟨e1,e2,⟨_,_,e3⟩,e4,e5⟩,fun c hc=>?_,q⟩
  have hb':s1.heap.objs.size≤c:=(mem5 hc).1
  exact I1.fpOk hb' (I1.hok.fresh hb')
end
end L2
namespace L2
open PySem PySem.Spec PyProof.Rows PySem.W
section
variable {te:TE}{Q:VK}{τ0:St}{H:Hp}{K:Frag}{a:Addr}{xs:List V}
end
end L2
namespace L2
open PySem PySem.Spec PyProof.Rows
section
variable {te:TE}{Q:VK}{τ0:St}{H:Hp}{K:PySem.W.Frag}{a:Addr}{xs:List V}
end
section
variable {X:Cx}
end
section
variable {X:Cx}
theorem Zc0 (hc:X.calm=true):ZcD X (.builtin "sorted") (fun xs H Q=>∃a ls,xs=[.ref a]∧H a=some (tset X.prog X.w a ls)∧ls.length≤sizeLine∧NewL ((Za4 ls).map tx) H Q):=by
 rintro pins s σ H xs us Q I r ⟨a,ls,rfl,ha,h64,q⟩
 obtain⟨u,rfl,ru⟩:=r.one
 cases ru
 have hS:TxSet X.prog X.w s.heap a ls (!Za7 X.w):=(I.hok a _ ha).1
 refine ZfE (I.ok.hd hc) hS h64 fun s' b us e nw k hg ho hb rv=>?_
 have hl:(Za4 ls).length≤sizeLine:=by rw[(ZaJ ls).length_eq];exact h64
 exact⟨.ref b,_,I.laid2 (o:=.lst ((Za4 ls).map tx)) ho hg k nw ⟨by rw[YAE];exact hl,us,e,rv,hb⟩,rfl,q b (I.hok.none_of nw)⟩
theorem Zhk (hc:X.calm=true):ZcD X (.type "list") (fun xs H Q=>∃a kvs,xs=[.ref a]∧Rd H a (.dK kvs)∧NewL (kvs.map fun p=>kV p.1) H Q):=by
 rintro pins s σ H xs us Q I r ⟨a,kvs,rfl,ha,q⟩
 obtain⟨u,rfl,ru⟩:=r.one
 cases ru
 obtain⟨z,y,vs,rr,o,es,ep,eo⟩:=ha.ok I.hok
 have hm:s.heap.DictAt (ZaI X.prog X.w) a vs ep:=⟨o,es,eo⟩
 have hl:vs.length≤sizeLine:=by rw[←rr.length];exact z
 refine PySem.W.kdl_call (PySem.W.kdl_dict y) (I.ok.hd hc) hm hl fun h' tk acc' c' hk hS hacc=>?_
 have hv:Vals (kvs.map fun p=>kV p.1) acc'.toList:=by
  have e1:(kvs.map fun p=>kV p.1)=(vs.map fun p=>kV p.1):=by
   have e2:(kvs.map fun p=>kV p.1)=(kvs.map (·.1)).map kV:=by rw[YBZ];rfl
   have e3:(vs.map fun p=>kV p.1)=(vs.map (·.1)).map kV:=by rw[YBZ];rfl
   rw[e2,e3,rr.keys]
  rw[e1]
  refine Zdd (by rw[YAE];exact(Array.length_toList.trans hacc.1).symm) fun i x u h1 h2=>?_
  rw[YAl]at h2
  obtain⟨k,v,e,hk⟩:=hacc.2 i u h2
  rw[YAo,e]at h1
  cases h1
  exact Zpo hk
 exact⟨.ref s.heap.objs.size,_,I.laid (t':=tk) (o:=.lst (kvs.map fun p=>kV p.1)) hk (YAQ _) ⟨by rw[YAE];exact z,acc'.toList,c',hv,by rw[YCl];exact hS⟩,rfl,q _ I.fresh⟩
end
section
variable {prog:Program}{w:World}{A:Around}{E:Value→Shared→Prop}{s:Shared}
end
section
variable {prog:Program}{w:World}{A:Around}{E:Value→Shared→Prop}{s:Shared}
end
section
variable {X:Cx}
end
def ZiU (t:TS):TS:=t
theorem Zaj {X:Cx}{st:List Stmt}{t:TS}(h:PSs X st t):PSs X st (ZiU t):=h
theorem Zam {t:TS}{D:Ends}{σ:St}{H:Hp}(h:t D σ H):ZiU t D σ H:=h
section
variable {X:Cx}
end
end L2
set_option maxHeartbeats 400000000
namespace Pk42
open PySem L2
noncomputable def top (i:Nat):Stmt:=PySem.Challenge.pw_lackword_k42_places_counted.main.body.getD i (.Pass ⟨0,0,0,0⟩)
noncomputable abbrev s_K0:Stmt:=top 13
noncomputable abbrev s_K2:Stmt:=top 14
noncomputable abbrev s_K4:Stmt:=top 15
noncomputable abbrev s_KY:Stmt:=top 16
noncomputable abbrev s_KS:Stmt:=top 17
noncomputable abbrev s_KZ:Stmt:=top 18
noncomputable abbrev s_KH:Stmt:=top 19
noncomputable abbrev s_LE:Stmt:=top 21
noncomputable abbrev s_K1:Stmt:=top 22
noncomputable abbrev s_LI:Stmt:=top 29
noncomputable abbrev ZkL:Stmt:=top 32
noncomputable abbrev s_KQ:Stmt:=top 33
noncomputable abbrev s_KX:Stmt:=top 34
noncomputable abbrev s_KG:Stmt:=top 35
noncomputable abbrev s_KR:Stmt:=top 36
noncomputable abbrev s_LH:Stmt:=top 38
noncomputable abbrev s_LA:Stmt:=top 39
noncomputable abbrev s_LD:Stmt:=top 40
noncomputable abbrev s_LJ:Stmt:=top 43
noncomputable abbrev s_LN:Stmt:=top 44
noncomputable abbrev s_LK:Stmt:=top 45
noncomputable abbrev s_LB:Stmt:=top 46
noncomputable abbrev s_K5:Stmt:=top 47
noncomputable abbrev s_LL:Stmt:=top 48
noncomputable abbrev s_LM:Stmt:=top 49
noncomputable abbrev s_LT:Stmt:=top 50
noncomputable abbrev s_LO:Stmt:=top 51
noncomputable abbrev s_K6:Stmt:=top 52
noncomputable abbrev s_LP:Stmt:=top 53
noncomputable abbrev s_K9:Stmt:=top 54
noncomputable abbrev Zi3:Stmt:=top 55
noncomputable abbrev ZbI:Stmt:=inClass (top 3) 0
noncomputable abbrev s_KT:Stmt:=inClass (top 26) 0
noncomputable abbrev s_KI:Stmt:=inClass (top 26) 1
noncomputable abbrev s_KU:Stmt:=inClass (top 26) 2
noncomputable abbrev s_KA:Stmt:=inClass (top 26) 3
noncomputable abbrev s_KB:Stmt:=inClass (top 26) 6
noncomputable abbrev s_KL:Stmt:=inClass (top 27) 0
noncomputable abbrev s_KP:Stmt:=inClass (top 41) 0
noncomputable abbrev s_KW:Stmt:=inClass (top 41) 3
noncomputable abbrev s_KN:Stmt:=inClass (top 41) 4
noncomputable abbrev s_KM:Stmt:=inClass (top 41) 5
noncomputable abbrev s_KO:Stmt:=inClass (top 41) 6
noncomputable abbrev s_KF:Stmt:=inClass (top 41) 7
noncomputable abbrev s_KE:Stmt:=inClass (top 41) 8
set_option genInjectivity false
set_option genSizeOf false
structure Ad where
 c_KV:Addr
 c_K8:Addr
 c_K3:Addr
 c_LS:Addr
 c_LR:Addr
 c_K7:Addr
 c_LQ:Addr
 c_LF:Addr
 c_LG:Addr
 g_NoWord_init:Addr
 e_NoWord_init:FuncData
 g_KT:Addr
 e_KT:FuncData
 g_KI:Addr
 e_KI:FuncData
 g_KU:Addr
 e_KU:FuncData
 g_KA:Addr
 e_KA:FuncData
 g_KB:Addr
 e_KB:FuncData
 g_KL:Addr
 e_KL:FuncData
 g_KP:Addr
 e_KP:FuncData
 g_KW:Addr
 e_KW:FuncData
 g_KN:Addr
 e_KN:FuncData
 g_KM:Addr
 e_KM:FuncData
 g_KO:Addr
 e_KO:FuncData
 g_KF:Addr
 e_KF:FuncData
 g_KE:Addr
 e_KE:FuncData
 f_K0:Addr
 d_K0:FuncData
 f_K2:Addr
 d_K2:FuncData
 f_K4:Addr
 d_K4:FuncData
 f_KY:Addr
 d_KY:FuncData
 f_KS:Addr
 d_KS:FuncData
 f_KZ:Addr
 d_KZ:FuncData
 f_KH:Addr
 d_KH:FuncData
 f_LE:Addr
 d_LE:FuncData
 f_K1:Addr
 d_K1:FuncData
 f_LI:Addr
 d_LI:FuncData
 f_ask:Addr
 d_ask:FuncData
 f_KQ:Addr
 d_KQ:FuncData
 f_KX:Addr
 d_KX:FuncData
 f_KG:Addr
 d_KG:FuncData
 f_KR:Addr
 d_KR:FuncData
 f_LH:Addr
 d_LH:FuncData
 f_LA:Addr
 d_LA:FuncData
 f_LD:Addr
 d_LD:FuncData
 f_LJ:Addr
 d_LJ:FuncData
 f_LN:Addr
 d_LN:FuncData
 f_LK:Addr
 d_LK:FuncData
 f_LB:Addr
 d_LB:FuncData
 f_K5:Addr
 d_K5:FuncData
 f_LL:Addr
 d_LL:FuncData
 f_LM:Addr
 d_LM:FuncData
 f_LT:Addr
 d_LT:FuncData
 f_LO:Addr
 d_LO:FuncData
 f_K6:Addr
 d_K6:FuncData
 f_LP:Addr
 d_LP:FuncData
 f_K9:Addr
 d_K9:FuncData
 f_law:Addr
 d_law:FuncData
 t_K1:Addr
 k_K1:Addr
 t_law:Addr
 k_law:Addr
structure Txt (K:PySem.W.Frag)(mg:Str→Option Value)(a:Ad):Prop where
 m_K0:mg "has_only"=some (.ref a.f_K0)
 f_K0:Fun K "has_only" "has_only" s_K0 a.f_K0 a.d_K0
 b_K0:Binds K a.d_K0 ["text","letters"] []
 m_K2:mg "is_kinds"=some (.ref a.f_K2)
 f_K2:Fun K "is_kinds" "is_kinds" s_K2 a.f_K2 a.d_K2
 b_K2:Binds K a.d_K2 ["thing"] []
 m_K4:mg "is_word"=some (.ref a.f_K4)
 f_K4:Fun K "is_word" "is_word" s_K4 a.f_K4 a.d_K4
 b_K4:Binds K a.d_K4 ["thing","kinds","most"] []
 m_KY:mg "is_letter"=some (.ref a.f_KY)
 f_KY:Fun K "is_letter" "is_letter" s_KY a.f_KY a.d_KY
 b_KY:Binds K a.d_KY ["thing","kinds"] []
 m_KS:mg "need_kinds"=some (.ref a.f_KS)
 f_KS:Fun K "need_kinds" "need_kinds" s_KS a.f_KS a.d_KS
 b_KS:Binds K a.d_KS ["thing"] []
 m_KZ:mg "need_word"=some (.ref a.f_KZ)
 f_KZ:Fun K "need_word" "need_word" s_KZ a.f_KZ a.d_KZ
 b_KZ:Binds K a.d_KZ ["thing","kinds","most"] []
 m_KH:mg "need_letter"=some (.ref a.f_KH)
 f_KH:Fun K "need_letter" "need_letter" s_KH a.f_KH a.d_KH
 b_KH:Binds K a.d_KH ["thing","kinds"] []
 m_LE:mg "places"=some (.ref a.f_LE)
 f_LE:Fun K "places" "places" s_LE a.f_LE a.d_LE
 b_LE:Binds K a.d_LE ["text","word"] []
 m_K1:mg "in_order"=some (.ref a.f_K1)
 f_K1:Fun K "in_order" "in_order" s_K1 a.f_K1 a.d_K1
 b_K1:Binds K a.d_K1 ["words"] []
 m_LI:mg "lacks"=some (.ref a.f_LI)
 f_LI:Fun K "lacks" "lacks" s_LI a.f_LI a.d_LI
 b_LI:Binds K a.d_LI ["text","word"] []
 m_ask:mg "ask"=some (.ref a.f_ask)
 f_ask:Fun K "ask" "ask" ZkL a.f_ask a.d_ask
 b_ask:Binds K a.d_ask ["band","word"] []
 m_KQ:mg "all_places"=some (.ref a.f_KQ)
 f_KQ:Fun K "all_places" "all_places" s_KQ a.f_KQ a.d_KQ
 b_KQ:Binds K a.d_KQ ["strip","word"] []
 m_KX:mg "how_often"=some (.ref a.f_KX)
 f_KX:Fun K "how_often" "how_often" s_KX a.f_KX a.d_KX
 b_KX:Binds K a.d_KX ["strip","word"] []
 m_KG:mg "first_place"=some (.ref a.f_KG)
 f_KG:Fun K "first_place" "first_place" s_KG a.f_KG a.d_KG
 b_KG:Binds K a.d_KG ["strip","word"] []
 m_KR:mg "last_place"=some (.ref a.f_KR)
 f_KR:Fun K "last_place" "last_place" s_KR a.f_KR a.d_KR
 b_KR:Binds K a.d_KR ["strip","word"] []
 m_LH:mg "fresh_words"=some (.ref a.f_LH)
 f_LH:Fun K "fresh_words" "fresh_words" s_LH a.f_LH a.d_LH
 b_LH:Binds K a.d_LH ["lesser","longer"] []
 m_LA:mg "filled"=some (.ref a.f_LA)
 f_LA:Fun K "filled" "filled" s_LA a.f_LA a.d_LA
 b_LA:Binds K a.d_LA ["lesser","longer","reason"] []
 m_LD:mg "opened"=some (.ref a.f_LD)
 f_LD:Fun K "opened" "opened" s_LD a.f_LD a.d_LD
 b_LD:Binds K a.d_LD ["lesser","longer","kinds","reason"] []
 m_LJ:mg "_law_cell"=some (.ref a.f_LJ)
 f_LJ:Fun K "_law_cell" "_law_cell" s_LJ a.f_LJ a.d_LJ
 b_LJ:Binds K a.d_LJ ["_law_script","_law_k"] []
 m_LN:mg "_law_mixed"=some (.ref a.f_LN)
 f_LN:Fun K "_law_mixed" "_law_mixed" s_LN a.f_LN a.d_LN
 b_LN:Binds K a.d_LN ["_law_cell_here","_law_k"] []
 m_LK:mg "_law_same"=some (.ref a.f_LK)
 f_LK:Fun K "_law_same" "_law_same" s_LK a.f_LK a.d_LK
 b_LK:Binds K a.d_LK ["_law_found","_law_due"] []
 m_LB:mg "_law_kinds"=some (.ref a.f_LB)
 f_LB:Fun K "_law_kinds" "_law_kinds" s_LB a.f_LB a.d_LB
 b_LB:Binds K a.d_LB ["_law_cell_here"] []
 m_K5:mg "_law_letters"=some (.ref a.f_K5)
 f_K5:Fun K "_law_letters" "_law_letters" s_K5 a.f_K5 a.d_K5
 b_K5:Binds K a.d_K5 ["_law_cell_here","_law_kinds_here","_law_size","_law_digits"] []
 m_LL:mg "_law_text"=some (.ref a.f_LL)
 f_LL:Fun K "_law_text" "_law_text" s_LL a.f_LL a.d_LL
 b_LL:Binds K a.d_LL ["_law_script","_law_at","_law_kinds_here"] []
 m_LM:mg "_law_word"=some (.ref a.f_LM)
 f_LM:Fun K "_law_word" "_law_word" s_LM a.f_LM a.d_LM
 b_LM:Binds K a.d_LM ["_law_cell_here","_law_text_here","_law_kinds_here"] []
 m_LT:mg "_law_bad"=some (.ref a.f_LT)
 f_LT:Fun K "_law_bad" "_law_bad" s_LT a.f_LT a.d_LT
 b_LT:Binds K a.d_LT ["_law_kinds_here","_law_most","_law_number"] []
 m_LO:mg "_law_moved"=some (.ref a.f_LO)
 f_LO:Fun K "_law_moved" "_law_moved" s_LO a.f_LO a.d_LO
 b_LO:Binds K a.d_LO ["_law_text_here","_law_kinds_here","_law_cell_here","_law_right_here"] []
 m_K6:mg "_law_places"=some (.ref a.f_K6)
 f_K6:Fun K "_law_places" "_law_places" s_K6 a.f_K6 a.d_K6
 b_K6:Binds K a.d_K6 ["_law_text_here","_law_word_here"] []
 m_LP:mg "_law_right"=some (.ref a.f_LP)
 f_LP:Fun K "_law_right" "_law_right" s_LP a.f_LP a.d_LP
 b_LP:Binds K a.d_LP ["_law_band","_law_row","_law_words"] []
 m_K9:mg "_law_caught"=some (.ref a.f_K9)
 f_K9:Fun K "_law_caught" "_law_caught" s_K9 a.f_K9 a.d_K9
 b_K9:Binds K a.d_K9 ["_law_way","_law_strip","_law_thing"] []
 m_law:mg "law"=some (.ref a.f_law)
 f_law:Fun K "law" "law" Zi3 a.f_law a.d_law
 b_law:Binds K a.d_law ["_law_script"] []
 m_KV:mg "LackError"=some (.ref a.c_KV)
 x_KV:Xm K a.c_KV
 xi_KV:Xi K a.c_KV
 k_KV:ClsOk K a.c_KV [.ref a.c_KV,.type "ValueError",.type "Exception",.type "BaseException",.type "object"]
 i_KV:PySem.W.findIn K (.ref a.c_KV) "__init__"=some (some (.builtin "ValueError.__init__"))
 r_KV:ClsRead K a.c_KV "__init__" (.builtin "ValueError.__init__")
 m_K8:mg "NoWord"=some (.ref a.c_K8)
 x_K8:Xm K a.c_K8
 xi_K8:Xi K a.c_K8
 k_K8:ClsOk K a.c_K8 [.ref a.c_K8,.ref a.c_KV,.type "ValueError",.type "Exception",.type "BaseException",.type "object"]
 i_K8:PySem.W.findIn K (.ref a.c_K8) "__init__"=some (some (.ref a.g_NoWord_init))
 fn_K8:PySem.W.isFn K (.ref a.g_NoWord_init)=true
 n_NoWord_word:NoAttr K a.c_K8 "word"
 fi_K8:Fun K "__init__" "NoWord.__init__" ZbI a.g_NoWord_init a.e_NoWord_init
 b_K8:Binds K a.e_NoWord_init ["self","word"] []
 m_K3:mg "NoKinds"=some (.ref a.c_K3)
 x_K3:Xm K a.c_K3
 xi_K3:Xi K a.c_K3
 k_K3:ClsOk K a.c_K3 [.ref a.c_K3,.ref a.c_KV,.type "ValueError",.type "Exception",.type "BaseException",.type "object"]
 i_K3:PySem.W.findIn K (.ref a.c_K3) "__init__"=some (some (.builtin "ValueError.__init__"))
 m_LS:mg "Full"=some (.ref a.c_LS)
 x_LS:Xm K a.c_LS
 xi_LS:Xi K a.c_LS
 k_LS:ClsOk K a.c_LS [.ref a.c_LS,.ref a.c_KV,.type "ValueError",.type "Exception",.type "BaseException",.type "object"]
 i_LS:PySem.W.findIn K (.ref a.c_LS) "__init__"=some (some (.builtin "ValueError.__init__"))
 m_LR:mg "Bare"=some (.ref a.c_LR)
 x_LR:Xm K a.c_LR
 xi_LR:Xi K a.c_LR
 k_LR:ClsOk K a.c_LR [.ref a.c_LR,.ref a.c_KV,.type "ValueError",.type "Exception",.type "BaseException",.type "object"]
 i_LR:PySem.W.findIn K (.ref a.c_LR) "__init__"=some (some (.builtin "ValueError.__init__"))
 m_K7:mg "NoBack"=some (.ref a.c_K7)
 x_K7:Xm K a.c_K7
 xi_K7:Xi K a.c_K7
 k_K7:ClsOk K a.c_K7 [.ref a.c_K7,.ref a.c_KV,.type "ValueError",.type "Exception",.type "BaseException",.type "object"]
 i_K7:PySem.W.findIn K (.ref a.c_K7) "__init__"=some (some (.builtin "ValueError.__init__"))
 m_LQ:mg "Band"=some (.ref a.c_LQ)
 cr_LQ:ClsRead K a.c_LQ "__init__" (.ref a.g_KT)
 cl_LQ:Cls K a.c_LQ
 m_LF:mg "Plain"=some (.ref a.c_LF)
 cr_LF:ClsRead K a.c_LF "__init__" (.ref a.g_KL)
 cl_LF:Cls K a.c_LF
 mk_LF:Mk K a.c_LF a.g_KL
 me_Plain_text:Meth K a.c_LF "text" a.g_KU
 me_Plain_kinds:Meth K a.c_LF "kinds" a.g_KI
 me_Plain_place_of:Meth K a.c_LF "place_of" a.g_KB
 me_Plain_laid_out:Meth K a.c_LF "laid_out" a.g_KA
 n_Plain_own_text:NoAttr K a.c_LF "own_text"
 n_Plain_own_kinds:NoAttr K a.c_LF "own_kinds"
 n_Plain_own_lacking:NoAttr K a.c_LF "own_lacking"
 n_Plain_own_deeds:NoAttr K a.c_LF "own_deeds"
 ty_LF:∀ {H:Hp} {x dx:Addr} {fs:List (Str×V)},H x=some (.ins a.c_LF dx fs)→TyOf K H (.ref x) (.ref a.c_LF)
 m_LG:mg "Strip"=some (.ref a.c_LG)
 cr_LG:ClsRead K a.c_LG "__init__" (.ref a.g_KP)
 cl_LG:Cls K a.c_LG
 mk_LG:Mk K a.c_LG a.g_KP
 me_Strip_text:Meth K a.c_LG "text" a.g_KU
 me_Strip_kinds:Meth K a.c_LG "kinds" a.g_KI
 me_Strip_place_of:Meth K a.c_LG "place_of" a.g_KB
 me_Strip_laid_out:Meth K a.c_LG "laid_out" a.g_KA
 me_KW:Meth K a.c_LG "put" a.g_KW
 me_KN:Meth K a.c_LG "drop" a.g_KN
 me_KM:Meth K a.c_LG "back" a.g_KM
 me_KO:Meth K a.c_LG "grow" a.g_KO
 me_KF:Meth K a.c_LG "shrink" a.g_KF
 me_KE:Meth K a.c_LG "change" a.g_KE
 n_Strip_own_text:NoAttr K a.c_LG "own_text"
 n_Strip_own_kinds:NoAttr K a.c_LG "own_kinds"
 n_Strip_own_lacking:NoAttr K a.c_LG "own_lacking"
 n_Strip_own_deeds:NoAttr K a.c_LG "own_deeds"
 ty_LG:∀ {H:Hp} {x dx:Addr} {fs:List (Str×V)},H x=some (.ins a.c_LG dx fs)→TyOf K H (.ref x) (.ref a.c_LG)
 fm_KT:Fun K "__init__" "Band.__init__" s_KT a.g_KT a.e_KT
 kp_KT:PySem.W.keepIn K (.ref a.g_KT)=true
 b_KT:Binds K a.e_KT ["self","text","kinds"] []
 fm_KI:Fun K "kinds" "Band.kinds" s_KI a.g_KI a.e_KI
 kp_KI:PySem.W.keepIn K (.ref a.g_KI)=true
 b_KI:Binds K a.e_KI ["self"] []
 fm_KU:Fun K "text" "Band.text" s_KU a.g_KU a.e_KU
 kp_KU:PySem.W.keepIn K (.ref a.g_KU)=true
 b_KU:Binds K a.e_KU ["self"] []
 fm_KA:Fun K "laid_out" "Band.laid_out" s_KA a.g_KA a.e_KA
 kp_KA:PySem.W.keepIn K (.ref a.g_KA)=true
 b_KA:Binds K a.e_KA ["self","length"] []
 fm_KB:Fun K "place_of" "Band.place_of" s_KB a.g_KB a.e_KB
 kp_KB:PySem.W.keepIn K (.ref a.g_KB)=true
 b_KB:Binds K a.e_KB ["self","word"] []
 fm_KL:Fun K "__init__" "Plain.__init__" s_KL a.g_KL a.e_KL
 kp_KL:PySem.W.keepIn K (.ref a.g_KL)=true
 b_KL:Binds K a.e_KL ["self","text","kinds"] []
 fm_KP:Fun K "__init__" "Strip.__init__" s_KP a.g_KP a.e_KP
 kp_KP:PySem.W.keepIn K (.ref a.g_KP)=true
 b_KP:Binds K a.e_KP ["self","kinds"] []
 fm_KW:Fun K "put" "Strip.put" s_KW a.g_KW a.e_KW
 kp_KW:PySem.W.keepIn K (.ref a.g_KW)=true
 b_KW:Binds K a.e_KW ["self","letter"] []
 fm_KN:Fun K "drop" "Strip.drop" s_KN a.g_KN a.e_KN
 kp_KN:PySem.W.keepIn K (.ref a.g_KN)=true
 b_KN:Binds K a.e_KN ["self"] []
 fm_KM:Fun K "back" "Strip.back" s_KM a.g_KM a.e_KM
 kp_KM:PySem.W.keepIn K (.ref a.g_KM)=true
 b_KM:Binds K a.e_KM ["self"] []
 fm_KO:Fun K "grow" "Strip.grow" s_KO a.g_KO a.e_KO
 kp_KO:PySem.W.keepIn K (.ref a.g_KO)=true
 b_KO:Binds K a.e_KO ["self","longer"] []
 fm_KF:Fun K "shrink" "Strip.shrink" s_KF a.g_KF a.e_KF
 kp_KF:PySem.W.keepIn K (.ref a.g_KF)=true
 b_KF:Binds K a.e_KF ["self","lesser"] []
 fm_KE:Fun K "change" "Strip.change" s_KE a.g_KE a.e_KE
 kp_KE:PySem.W.keepIn K (.ref a.g_KE)=true
 b_KE:Binds K a.e_KE ["self","text","came","went"] []
 nd:[a.c_KV,a.c_K8,a.c_K3,a.c_LS,a.c_LR,a.c_K7].Nodup
 z_len:mg "len"=none
 z_range:mg "range"=none
 z_isinstance:mg "isinstance"=none
 z_all:mg "all"=none
 z_min:mg "min"=none
 z_list:mg "list"=none
 z_tuple:mg "tuple"=none
 z_set:mg "set"=none
 z_sorted:mg "sorted"=none
 z_str:mg "str"=none
 z_int:mg "int"=none
 z_bool:mg "bool"=none
 z_ValueError:mg "ValueError"=none
 z_zip:mg "zip"=none
 c_KD:∃t,mg "SMALL_LETTERS"=some (.str (Str.ofString "abcdefghijklmnopqrstuvwxyz") t)
 c_KK:∃t,mg "MOST_KINDS"=some (.int 4 t)
 c_KC:∃t,mg "MOST_IN_STRIP"=some (.int 40 t)
 c_KJ:∃t,mg "MOST_ASKED"=some (.int 60 t)
 bl:∀(s:Shared) (u:Value),BindsTo s a.d_law ⟨[u],[]⟩ [("_law_script",u)]
structure TL (K:PySem.W.Frag)(mg:Str→Option Value)(base:Heap)(a:Ad)(tb:Str→Addr×Addr):Prop extends Txt K mg a where
 L_in_order:LamEnv base mg a.k_K1 a.t_K1
 cd_K1:a.d_K1.code=.ref a.k_K1
 e_K1:a.t_K1=(tb "in_order").2
 L_law:LamEnv base mg a.k_law a.t_law
 cd_law:a.d_law.code=.ref a.k_law
 e_law:a.t_law=(tb "law").2
theorem lenA {P:List Value→Prop}(h:∀a,P [a]):∀us:List Value,us.length=1→P us
 | [a],_=>h a
local macro_rules | `(tactic| walk_at "b1") => `(tactic| (intro _ _ _ _ _ _; refine lenA ?_; intros; rfl))
theorem lenB {P:List Value→Prop}(h:∀a b,P [a,b]):∀us:List Value,us.length=2→P us
 | [a,b],_=>h a b
local macro_rules | `(tactic| walk_at "b2") => `(tactic| (intro _ _ _ _ _ _; refine lenB ?_; intros; rfl))
theorem lenC {P:List Value→Prop}(h:∀a b c,P [a,b,c]):∀us:List Value,us.length=3→P us
 | [a,b,c],_=>h a b c
local macro_rules | `(tactic| walk_at "b3") => `(tactic| (intro _ _ _ _ _ _; refine lenC ?_; intros; rfl))
theorem lenD {P:List Value→Prop}(h:∀a b c d,P [a,b,c,d]):∀us:List Value,us.length=4→P us
 | [a,b,c,d],_=>h a b c d
local macro_rules | `(tactic| walk_at "b4") => `(tactic| (intro _ _ _ _ _ _; refine lenD ?_; intros; rfl))
theorem txt_mk {K:PySem.W.Frag}{h:Heap}{mg:Str→Option Value}(X:K.In h)(G:h.Ns mainGlobals mg){c_KV:Addr}{c_K8:Addr}{g_NoWord_init:Addr}{e_NoWord_init:FuncData}{c_K3:Addr}{c_LS:Addr}{c_LR:Addr}{c_K7:Addr}{g_KT:Addr}{e_KT:FuncData}{g_KI:Addr}{e_KI:FuncData}{g_KU:Addr}{e_KU:FuncData}{g_KA:Addr}{e_KA:FuncData}{g_KB:Addr}{e_KB:FuncData}{g_KL:Addr}{e_KL:FuncData}{g_KP:Addr}{e_KP:FuncData}{g_KW:Addr}{e_KW:FuncData}{g_KN:Addr}{e_KN:FuncData}{g_KM:Addr}{e_KM:FuncData}{g_KO:Addr}{e_KO:FuncData}{g_KF:Addr}{e_KF:FuncData}{g_KE:Addr}{e_KE:FuncData}{c_LQ:Addr}{c_LF:Addr}{c_LG:Addr}{f_K0:Addr}{d_K0:FuncData}{f_K2:Addr}{d_K2:FuncData}{f_K4:Addr}{d_K4:FuncData}{f_KY:Addr}{d_KY:FuncData}{f_KS:Addr}{d_KS:FuncData}{f_KZ:Addr}{d_KZ:FuncData}{f_KH:Addr}{d_KH:FuncData}{f_LE:Addr}{d_LE:FuncData}{f_K1:Addr}{d_K1:FuncData}{f_LI:Addr}{d_LI:FuncData}{f_ask:Addr}{d_ask:FuncData}{f_KQ:Addr}{d_KQ:FuncData}{f_KX:Addr}{d_KX:FuncData}{f_KG:Addr}{d_KG:FuncData}{f_KR:Addr}{d_KR:FuncData}{f_LH:Addr}{d_LH:FuncData}{f_LA:Addr}{d_LA:FuncData}{f_LD:Addr}{d_LD:FuncData}{f_LJ:Addr}{d_LJ:FuncData}{f_LN:Addr}{d_LN:FuncData}{f_LK:Addr}{d_LK:FuncData}{f_LB:Addr}{d_LB:FuncData}{f_K5:Addr}{d_K5:FuncData}{f_LL:Addr}{d_LL:FuncData}{f_LM:Addr}{d_LM:FuncData}{f_LT:Addr}{d_LT:FuncData}{f_LO:Addr}{d_LO:FuncData}{f_K6:Addr}{d_K6:FuncData}{f_LP:Addr}{d_LP:FuncData}{f_K9:Addr}{d_K9:FuncData}{f_law:Addr}{d_law:FuncData}{tk_KD:Tok}{tk_KK:Tok}{tk_KC:Tok}{tk_KJ:Tok}{t_K1 k_K1:Addr}{t_law k_law:Addr}
  (X_LackError:XG K "LackError" c_KV [.ref c_KV,.type "ValueError",.type "Exception",.type "BaseException",.type "object"])
  (i_KV:PySem.W.findIn K (.ref c_KV) "__init__"=some (some (.builtin "ValueError.__init__")))
  (rs_KV:PySem.W.specialIn K (.ref c_KV) "__getattribute__"=some (some (.builtin "type.__getattribute__")))
  (rr_KV:PySem.W.readsIn K c_KV (.type "type")=true)
  (rf_KV:PySem.W.findCls K (.ref c_KV) (.type "type") "__init__"=some (.val (.builtin "ValueError.__init__")))
  (X_NoWord:XG K "NoWord" c_K8 [.ref c_K8,.ref c_KV,.type "ValueError",.type "Exception",.type "BaseException",.type "object"])
  (i_K8:PySem.W.findIn K (.ref c_K8) "__init__"=some (some (.ref g_NoWord_init)))
  (F_INoWord:MG K "__init__" "NoWord.__init__" ZbI g_NoWord_init e_NoWord_init)
  (n_NoWord_word:PySem.W.findIn K (.ref c_K8) "word"=some none)
  (X_NoKinds:XG K "NoKinds" c_K3 [.ref c_K3,.ref c_KV,.type "ValueError",.type "Exception",.type "BaseException",.type "object"])
  (i_K3:PySem.W.findIn K (.ref c_K3) "__init__"=some (some (.builtin "ValueError.__init__")))
  (X_Full:XG K "Full" c_LS [.ref c_LS,.ref c_KV,.type "ValueError",.type "Exception",.type "BaseException",.type "object"])
  (i_LS:PySem.W.findIn K (.ref c_LS) "__init__"=some (some (.builtin "ValueError.__init__")))
  (X_Bare:XG K "Bare" c_LR [.ref c_LR,.ref c_KV,.type "ValueError",.type "Exception",.type "BaseException",.type "object"])
  (i_LR:PySem.W.findIn K (.ref c_LR) "__init__"=some (some (.builtin "ValueError.__init__")))
  (X_NoBack:XG K "NoBack" c_K7 [.ref c_K7,.ref c_KV,.type "ValueError",.type "Exception",.type "BaseException",.type "object"])
  (i_K7:PySem.W.findIn K (.ref c_K7) "__init__"=some (some (.builtin "ValueError.__init__")))
  (ow_hn:PySem.W.specialIn K (.builtin "object.__class__") "__get__"=some (some (.builtin "getset_descriptor.__get__")))
  (ow_tk:PySem.W.takesIn K (.builtin "object.__class__")=some true)
  (a_LQ:PySem.W.nsIn K mainGlobals "Band"=some (some (.ref c_LQ)))
  (pg_LQ:PySem.W.plainGet K c_LQ Str.empty=true)
  (hd_LQ:PySem.W.hasDictIn K c_LQ=true)
  (po_LQ:PySem.W.plainOver K c_LQ=true)
  (sa_LQ:PySem.W.findIn K (.ref c_LQ) "__setattr__"=some (some (.builtin "object.__setattr__")))
  (rs_LQ:PySem.W.specialIn K (.ref c_LQ) "__getattribute__"=some (some (.builtin "type.__getattribute__")))
  (rr_LQ:PySem.W.readsIn K c_LQ (.type "type")=true)
  (rf_LQ:PySem.W.findCls K (.ref c_LQ) (.type "type") "__init__"=some (.val (.ref g_KT)))
  (a_LF:PySem.W.nsIn K mainGlobals "Plain"=some (some (.ref c_LF)))
  (pg_LF:PySem.W.plainGet K c_LF Str.empty=true)
  (hd_LF:PySem.W.hasDictIn K c_LF=true)
  (po_LF:PySem.W.plainOver K c_LF=true)
  (sa_LF:PySem.W.findIn K (.ref c_LF) "__setattr__"=some (some (.builtin "object.__setattr__")))
  (rs_LF:PySem.W.specialIn K (.ref c_LF) "__getattribute__"=some (some (.builtin "type.__getattribute__")))
  (rr_LF:PySem.W.readsIn K c_LF (.type "type")=true)
  (rf_LF:PySem.W.findCls K (.ref c_LF) (.type "type") "__init__"=some (.val (.ref g_KL)))
  (mk_LF:PySem.W.makesIn K c_LF=true)
  (in_LF:PySem.W.findIn K (.ref c_LF) "__init__"=some (some (.ref g_KL)))
  (kc_LF:PySem.W.keepIn K (.ref c_LF)=true)
  (ha_LF:PySem.W.findIn K (.ref c_LF) "__class__"=some (some (.builtin "object.__class__")))
  (mo_LF:PySem.W.mroIn K c_LF (.type "object")=some true)
  (me_Plain_text:PySem.W.findIn K (.ref c_LF) "text"=some (some (.ref g_KU)))
  (me_Plain_kinds:PySem.W.findIn K (.ref c_LF) "kinds"=some (some (.ref g_KI)))
  (me_Plain_place_of:PySem.W.findIn K (.ref c_LF) "place_of"=some (some (.ref g_KB)))
  (me_Plain_laid_out:PySem.W.findIn K (.ref c_LF) "laid_out"=some (some (.ref g_KA)))
  (n_Plain_own_text:PySem.W.findIn K (.ref c_LF) "own_text"=some none)
  (n_Plain_own_kinds:PySem.W.findIn K (.ref c_LF) "own_kinds"=some none)
  (n_Plain_own_lacking:PySem.W.findIn K (.ref c_LF) "own_lacking"=some none)
  (n_Plain_own_deeds:PySem.W.findIn K (.ref c_LF) "own_deeds"=some none)
  (a_LG:PySem.W.nsIn K mainGlobals "Strip"=some (some (.ref c_LG)))
  (pg_LG:PySem.W.plainGet K c_LG Str.empty=true)
  (hd_LG:PySem.W.hasDictIn K c_LG=true)
  (po_LG:PySem.W.plainOver K c_LG=true)
  (sa_LG:PySem.W.findIn K (.ref c_LG) "__setattr__"=some (some (.builtin "object.__setattr__")))
  (rs_LG:PySem.W.specialIn K (.ref c_LG) "__getattribute__"=some (some (.builtin "type.__getattribute__")))
  (rr_LG:PySem.W.readsIn K c_LG (.type "type")=true)
  (rf_LG:PySem.W.findCls K (.ref c_LG) (.type "type") "__init__"=some (.val (.ref g_KP)))
  (mk_LG:PySem.W.makesIn K c_LG=true)
  (in_LG:PySem.W.findIn K (.ref c_LG) "__init__"=some (some (.ref g_KP)))
  (kc_LG:PySem.W.keepIn K (.ref c_LG)=true)
  (ha_LG:PySem.W.findIn K (.ref c_LG) "__class__"=some (some (.builtin "object.__class__")))
  (mo_LG:PySem.W.mroIn K c_LG (.type "object")=some true)
  (me_Strip_text:PySem.W.findIn K (.ref c_LG) "text"=some (some (.ref g_KU)))
  (me_Strip_kinds:PySem.W.findIn K (.ref c_LG) "kinds"=some (some (.ref g_KI)))
  (me_Strip_place_of:PySem.W.findIn K (.ref c_LG) "place_of"=some (some (.ref g_KB)))
  (me_Strip_laid_out:PySem.W.findIn K (.ref c_LG) "laid_out"=some (some (.ref g_KA)))
  (me_KW:PySem.W.findIn K (.ref c_LG) "put"=some (some (.ref g_KW)))
  (me_KN:PySem.W.findIn K (.ref c_LG) "drop"=some (some (.ref g_KN)))
  (me_KM:PySem.W.findIn K (.ref c_LG) "back"=some (some (.ref g_KM)))
  (me_KO:PySem.W.findIn K (.ref c_LG) "grow"=some (some (.ref g_KO)))
  (me_KF:PySem.W.findIn K (.ref c_LG) "shrink"=some (some (.ref g_KF)))
  (me_KE:PySem.W.findIn K (.ref c_LG) "change"=some (some (.ref g_KE)))
  (n_Strip_own_text:PySem.W.findIn K (.ref c_LG) "own_text"=some none)
  (n_Strip_own_kinds:PySem.W.findIn K (.ref c_LG) "own_kinds"=some none)
  (n_Strip_own_lacking:PySem.W.findIn K (.ref c_LG) "own_lacking"=some none)
  (n_Strip_own_deeds:PySem.W.findIn K (.ref c_LG) "own_deeds"=some none)
  (F_Band_init:MG K "__init__" "Band.__init__" s_KT g_KT e_KT)
  (F_Band_kinds:MG K "kinds" "Band.kinds" s_KI g_KI e_KI)
  (F_Band_text:MG K "text" "Band.text" s_KU g_KU e_KU)
  (F_Band_laid_out:MG K "laid_out" "Band.laid_out" s_KA g_KA e_KA)
  (F_Band_place_of:MG K "place_of" "Band.place_of" s_KB g_KB e_KB)
  (F_Plain_init:MG K "__init__" "Plain.__init__" s_KL g_KL e_KL)
  (F_Strip_init:MG K "__init__" "Strip.__init__" s_KP g_KP e_KP)
  (F_Strip_put:MG K "put" "Strip.put" s_KW g_KW e_KW)
  (F_Strip_drop:MG K "drop" "Strip.drop" s_KN g_KN e_KN)
  (F_Strip_back:MG K "back" "Strip.back" s_KM g_KM e_KM)
  (F_Strip_grow:MG K "grow" "Strip.grow" s_KO g_KO e_KO)
  (F_Strip_shrink:MG K "shrink" "Strip.shrink" s_KF g_KF e_KF)
  (F_Strip_change:MG K "change" "Strip.change" s_KE g_KE e_KE)
  (nd:[c_KV,c_K8,c_K3,c_LS,c_LR,c_K7].Nodup)
  (D_has_only:DG K "has_only" s_K0 f_K0 d_K0)
  (D_is_kinds:DG K "is_kinds" s_K2 f_K2 d_K2)
  (D_is_word:DG K "is_word" s_K4 f_K4 d_K4)
  (D_is_letter:DG K "is_letter" s_KY f_KY d_KY)
  (D_need_kinds:DG K "need_kinds" s_KS f_KS d_KS)
  (D_need_word:DG K "need_word" s_KZ f_KZ d_KZ)
  (D_need_letter:DG K "need_letter" s_KH f_KH d_KH)
  (D_places:DG K "places" s_LE f_LE d_LE)
  (D_in_order:DG K "in_order" s_K1 f_K1 d_K1)
  (D_lacks:DG K "lacks" s_LI f_LI d_LI)
  (D_ask:DG K "ask" ZkL f_ask d_ask)
  (D_all_places:DG K "all_places" s_KQ f_KQ d_KQ)
  (D_how_often:DG K "how_often" s_KX f_KX d_KX)
  (D_first_place:DG K "first_place" s_KG f_KG d_KG)
  (D_last_place:DG K "last_place" s_KR f_KR d_KR)
  (D_fresh:DG K "fresh_words" s_LH f_LH d_LH)
  (D_filled:DG K "filled" s_LA f_LA d_LA)
  (D_opened:DG K "opened" s_LD f_LD d_LD)
  (D_lcell:DG K "_law_cell" s_LJ f_LJ d_LJ)
  (D_mixed:DG K "_law_mixed" s_LN f_LN d_LN)
  (D_lsame:DG K "_law_same" s_LK f_LK d_LK)
  (D_lkinds:DG K "_law_kinds" s_LB f_LB d_LB)
  (D_letters:DG K "_law_letters" s_K5 f_K5 d_K5)
  (D_ltext:DG K "_law_text" s_LL f_LL d_LL)
  (D_lword:DG K "_law_word" s_LM f_LM d_LM)
  (D_lbad:DG K "_law_bad" s_LT f_LT d_LT)
  (D_moved:DG K "_law_moved" s_LO f_LO d_LO)
  (D_lplaces:DG K "_law_places" s_K6 f_K6 d_K6)
  (D_right:DG K "_law_right" s_LP f_LP d_LP)
  (D_caught:DG K "_law_caught" s_K9 f_K9 d_K9)
  (D_law:DG K "law" Zi3 f_law d_law)
  (z_len:PySem.W.nsIn K mainGlobals "len"=some none)
  (z_range:PySem.W.nsIn K mainGlobals "range"=some none)
  (z_isinstance:PySem.W.nsIn K mainGlobals "isinstance"=some none)
  (z_all:PySem.W.nsIn K mainGlobals "all"=some none)
  (z_min:PySem.W.nsIn K mainGlobals "min"=some none)
  (z_list:PySem.W.nsIn K mainGlobals "list"=some none)
  (z_tuple:PySem.W.nsIn K mainGlobals "tuple"=some none)
  (z_set:PySem.W.nsIn K mainGlobals "set"=some none)
  (z_sorted:PySem.W.nsIn K mainGlobals "sorted"=some none)
  (z_str:PySem.W.nsIn K mainGlobals "str"=some none)
  (z_int:PySem.W.nsIn K mainGlobals "int"=some none)
  (z_bool:PySem.W.nsIn K mainGlobals "bool"=some none)
  (z_ValueError:PySem.W.nsIn K mainGlobals "ValueError"=some none)
  (z_zip:PySem.W.nsIn K mainGlobals "zip"=some none)
  (c_KD:PySem.W.nsIn K mainGlobals "SMALL_LETTERS"=some (some (.str (Str.ofString "abcdefghijklmnopqrstuvwxyz") tk_KD)))
  (c_KK:PySem.W.nsIn K mainGlobals "MOST_KINDS"=some (some (.int 4 tk_KK)))
  (c_KC:PySem.W.nsIn K mainGlobals "MOST_IN_STRIP"=some (some (.int 40 tk_KC)))
  (c_KJ:PySem.W.nsIn K mainGlobals "MOST_ASKED"=some (some (.int 60 tk_KJ))):∃a,Txt K mg a∧a.t_K1=t_K1∧a.k_K1=k_K1∧a.t_law=t_law∧a.k_law=k_law:=by
 obtain⟨_,_,_,_,_,_,_,_,_,rfl,_⟩:=id D_law.2.ex
 refine⟨{ c_KV,g_NoWord_init,e_NoWord_init,c_K8,c_K3,c_LS,c_LR,c_K7,c_LQ,c_LF,c_LG,g_KT,e_KT,g_KI,e_KI,g_KU,e_KU,g_KA,e_KA,g_KB,e_KB,g_KL,e_KL,g_KP,e_KP,g_KW,e_KW,g_KN,e_KN,g_KM,e_KM,g_KO,e_KO,g_KF,e_KF,g_KE,e_KE,f_K0,d_K0,f_K2,d_K2,f_K4,d_K4,f_KY,d_KY,f_KS,d_KS,f_KZ,d_KZ,f_KH,d_KH,f_LE,d_LE,f_K1,d_K1,f_LI,d_LI,f_ask,d_ask,f_KQ,d_KQ,f_KX,d_KX,f_KG,d_KG,f_KR,d_KR,f_LH,d_LH,f_LA,d_LA,f_LD,d_LD,f_LJ,d_LJ,f_LN,d_LN,f_LK,d_LK,f_LB,d_LB,f_K5,d_K5,f_LL,d_LL,f_LM,d_LM,f_LT,d_LT,f_LO,d_LO,f_K6,d_K6,f_LP,d_LP,f_K9,d_K9,f_law,t_K1,k_K1,t_law,k_law,d_law:=_ },{ m_K0:=YAT X G D_has_only.1,f_K0:=D_has_only.2,b_K0:=D_has_only.2.binds (by walk_at "b2"),m_K2:=YAT X G D_is_kinds.1,f_K2:=D_is_kinds.2,b_K2:=D_is_kinds.2.binds (by walk_at "b1"),m_K4:=YAT X G D_is_word.1,f_K4:=D_is_word.2,b_K4:=D_is_word.2.binds (by walk_at "b3"),m_KY:=YAT X G D_is_letter.1,f_KY:=D_is_letter.2,b_KY:=D_is_letter.2.binds (by walk_at "b2"),m_KS:=YAT X G D_need_kinds.1,f_KS:=D_need_kinds.2,b_KS:=D_need_kinds.2.binds (by walk_at "b1"),m_KZ:=YAT X G D_need_word.1,f_KZ:=D_need_word.2,b_KZ:=D_need_word.2.binds (by walk_at "b3"),m_KH:=YAT X G D_need_letter.1,f_KH:=D_need_letter.2,b_KH:=D_need_letter.2.binds (by walk_at "b2"),m_LE:=YAT X G D_places.1,f_LE:=D_places.2,b_LE:=D_places.2.binds (by walk_at "b2"),m_K1:=YAT X G D_in_order.1,f_K1:=D_in_order.2,b_K1:=D_in_order.2.binds (by walk_at "b1"),m_LI:=YAT X G D_lacks.1,f_LI:=D_lacks.2,b_LI:=D_lacks.2.binds (by walk_at "b2"),m_ask:=YAT X G D_ask.1,f_ask:=D_ask.2,b_ask:=D_ask.2.binds (by walk_at "b2"),m_KQ:=YAT X G D_all_places.1,f_KQ:=D_all_places.2,b_KQ:=D_all_places.2.binds (by walk_at "b2"),m_KX:=YAT X G D_how_often.1,f_KX:=D_how_often.2,b_KX:=D_how_often.2.binds (by walk_at "b2"),m_KG:=YAT X G D_first_place.1,f_KG:=D_first_place.2,b_KG:=D_first_place.2.binds (by walk_at "b2"),m_KR:=YAT X G D_last_place.1,f_KR:=D_last_place.2,b_KR:=D_last_place.2.binds (by walk_at "b2"),m_LH:=YAT X G D_fresh.1,f_LH:=D_fresh.2,b_LH:=D_fresh.2.binds (by walk_at "b2"),m_LA:=YAT X G D_filled.1,f_LA:=D_filled.2,b_LA:=D_filled.2.binds (by walk_at "b3"),m_LD:=YAT X G D_opened.1,f_LD:=D_opened.2,b_LD:=D_opened.2.binds (by walk_at "b4"),m_LJ:=YAT X G D_lcell.1,f_LJ:=D_lcell.2,b_LJ:=D_lcell.2.binds (by walk_at "b2"),m_LN:=YAT X G D_mixed.1,f_LN:=D_mixed.2,b_LN:=D_mixed.2.binds (by walk_at "b2"),m_LK:=YAT X G D_lsame.1,f_LK:=D_lsame.2,b_LK:=D_lsame.2.binds (by walk_at "b2"),m_LB:=YAT X G D_lkinds.1,f_LB:=D_lkinds.2,b_LB:=D_lkinds.2.binds (by walk_at "b1"),m_K5:=YAT X G D_letters.1,f_K5:=D_letters.2,b_K5:=D_letters.2.binds (by walk_at "b4"),m_LL:=YAT X G D_ltext.1,f_LL:=D_ltext.2,b_LL:=D_ltext.2.binds (by walk_at "b3"),m_LM:=YAT X G D_lword.1,f_LM:=D_lword.2,b_LM:=D_lword.2.binds (by walk_at "b3"),m_LT:=YAT X G D_lbad.1,f_LT:=D_lbad.2,b_LT:=D_lbad.2.binds (by walk_at "b3"),m_LO:=YAT X G D_moved.1,f_LO:=D_moved.2,b_LO:=D_moved.2.binds (by walk_at "b4"),m_K6:=YAT X G D_lplaces.1,f_K6:=D_lplaces.2,b_K6:=D_lplaces.2.binds (by walk_at "b2"),m_LP:=YAT X G D_right.1,f_LP:=D_right.2,b_LP:=D_right.2.binds (by walk_at "b3"),m_K9:=YAT X G D_caught.1,f_K9:=D_caught.2,b_K9:=D_caught.2.binds (by walk_at "b3"),m_law:=YAT X G D_law.1,f_law:=D_law.2,b_law:=D_law.2.binds (by walk_at "b1"),m_KV:=YAT X G X_LackError.a,x_KV:=X_LackError.m,xi_KV:=X_LackError.i,k_KV:=X_LackError.k,i_KV,r_KV:=⟨rs_KV,rr_KV,rf_KV,rfl⟩,m_K8:=YAT X G X_NoWord.a,x_K8:=X_NoWord.m,xi_K8:=X_NoWord.i,k_K8:=X_NoWord.k,i_K8,fn_K8:=F_INoWord.2,n_NoWord_word,fi_K8:=F_INoWord.1,b_K8:=F_INoWord.1.binds (by walk_at "b2"),m_K3:=YAT X G X_NoKinds.a,x_K3:=X_NoKinds.m,xi_K3:=X_NoKinds.i,k_K3:=X_NoKinds.k,i_K3,m_LS:=YAT X G X_Full.a,x_LS:=X_Full.m,xi_LS:=X_Full.i,k_LS:=X_Full.k,i_LS,m_LR:=YAT X G X_Bare.a,x_LR:=X_Bare.m,xi_LR:=X_Bare.i,k_LR:=X_Bare.k,i_LR,m_K7:=YAT X G X_NoBack.a,x_K7:=X_NoBack.m,xi_K7:=X_NoBack.i,k_K7:=X_NoBack.k,i_K7,m_LQ:=YAT X G a_LQ,cr_LQ:=⟨rs_LQ,rr_LQ,rf_LQ,rfl⟩,cl_LQ:=⟨pg_LQ,hd_LQ,po_LQ,sa_LQ⟩,m_LF:=YAT X G a_LF,cr_LF:=⟨rs_LF,rr_LF,rf_LF,rfl⟩,cl_LF:=⟨pg_LF,hd_LF,po_LF,sa_LF⟩,mk_LF:=⟨mk_LF,in_LF,F_Plain_init.2,kc_LF⟩,me_Plain_text:=⟨me_Plain_text,F_Band_text.2,F_Band_text.1.kp⟩,me_Plain_kinds:=⟨me_Plain_kinds,F_Band_kinds.2,F_Band_kinds.1.kp⟩,me_Plain_place_of:=⟨me_Plain_place_of,F_Band_place_of.2,F_Band_place_of.1.kp⟩,me_Plain_laid_out:=⟨me_Plain_laid_out,F_Band_laid_out.2,F_Band_laid_out.1.kp⟩,n_Plain_own_text,n_Plain_own_kinds,n_Plain_own_lacking,n_Plain_own_deeds,ty_LF:=fun e=>.ins e ⟨pg_LF,hd_LF,po_LF,sa_LF⟩ ha_LF ow_hn ow_tk mo_LF,m_LG:=YAT X G a_LG,cr_LG:=⟨rs_LG,rr_LG,rf_LG,rfl⟩,cl_LG:=⟨pg_LG,hd_LG,po_LG,sa_LG⟩,mk_LG:=⟨mk_LG,in_LG,F_Strip_init.2,kc_LG⟩,me_Strip_text:=⟨me_Strip_text,F_Band_text.2,F_Band_text.1.kp⟩,me_Strip_kinds:=⟨me_Strip_kinds,F_Band_kinds.2,F_Band_kinds.1.kp⟩,me_Strip_place_of:=⟨me_Strip_place_of,F_Band_place_of.2,F_Band_place_of.1.kp⟩,me_Strip_laid_out:=⟨me_Strip_laid_out,F_Band_laid_out.2,F_Band_laid_out.1.kp⟩,me_KW:=⟨me_KW,F_Strip_put.2,F_Strip_put.1.kp⟩,me_KN:=⟨me_KN,F_Strip_drop.2,F_Strip_drop.1.kp⟩,me_KM:=⟨me_KM,F_Strip_back.2,F_Strip_back.1.kp⟩,me_KO:=⟨me_KO,F_Strip_grow.2,F_Strip_grow.1.kp⟩,me_KF:=⟨me_KF,F_Strip_shrink.2,F_Strip_shrink.1.kp⟩,me_KE:=⟨me_KE,F_Strip_change.2,F_Strip_change.1.kp⟩,n_Strip_own_text,n_Strip_own_kinds,n_Strip_own_lacking,n_Strip_own_deeds,ty_LG:=fun e=>.ins e ⟨pg_LG,hd_LG,po_LG,sa_LG⟩ ha_LG ow_hn ow_tk mo_LG,fm_KT:=F_Band_init.1,kp_KT:=F_Band_init.1.kp,b_KT:=F_Band_init.1.binds (by walk_at "b3"),fm_KI:=F_Band_kinds.1,kp_KI:=F_Band_kinds.1.kp,b_KI:=F_Band_kinds.1.binds (by walk_at "b1"),fm_KU:=F_Band_text.1,kp_KU:=F_Band_text.1.kp,b_KU:=F_Band_text.1.binds (by walk_at "b1"),fm_KA:=F_Band_laid_out.1,kp_KA:=F_Band_laid_out.1.kp,b_KA:=F_Band_laid_out.1.binds (by walk_at "b2"),fm_KB:=F_Band_place_of.1,kp_KB:=F_Band_place_of.1.kp,b_KB:=F_Band_place_of.1.binds (by walk_at "b2"),fm_KL:=F_Plain_init.1,kp_KL:=F_Plain_init.1.kp,b_KL:=F_Plain_init.1.binds (by walk_at "b3"),fm_KP:=F_Strip_init.1,kp_KP:=F_Strip_init.1.kp,b_KP:=F_Strip_init.1.binds (by walk_at "b2"),fm_KW:=F_Strip_put.1,kp_KW:=F_Strip_put.1.kp,b_KW:=F_Strip_put.1.binds (by walk_at "b2"),fm_KN:=F_Strip_drop.1,kp_KN:=F_Strip_drop.1.kp,b_KN:=F_Strip_drop.1.binds (by walk_at "b1"),fm_KM:=F_Strip_back.1,kp_KM:=F_Strip_back.1.kp,b_KM:=F_Strip_back.1.binds (by walk_at "b1"),fm_KO:=F_Strip_grow.1,kp_KO:=F_Strip_grow.1.kp,b_KO:=F_Strip_grow.1.binds (by walk_at "b2"),fm_KF:=F_Strip_shrink.1,kp_KF:=F_Strip_shrink.1.kp,b_KF:=F_Strip_shrink.1.binds (by walk_at "b2"),fm_KE:=F_Strip_change.1,kp_KE:=F_Strip_change.1.kp,b_KE:=F_Strip_change.1.binds (by walk_at "b4"),nd,z_len:=YAu X G z_len,z_range:=YAu X G z_range,z_isinstance:=YAu X G z_isinstance,z_all:=YAu X G z_all,z_min:=YAu X G z_min,z_list:=YAu X G z_list,z_tuple:=YAu X G z_tuple,z_set:=YAu X G z_set,z_sorted:=YAu X G z_sorted,z_str:=YAu X G z_str,z_int:=YAu X G z_int,z_bool:=YAu X G z_bool,z_ValueError:=YAu X G z_ValueError,z_zip:=YAu X G z_zip,c_KD:=⟨_,YAT X G c_KD⟩,c_KK:=⟨_,YAT X G c_KK⟩,c_KC:=⟨_,YAT X G c_KC⟩,c_KJ:=⟨_,YAT X G c_KJ⟩,bl:=fun s u=>.of_eq rfl },rfl,rfl,rfl,rfl⟩
end Pk42
namespace Pk42
open PySem L2
noncomputable def lpos:Pos:=⟨51,29,51,59⟩
noncomputable def lq:Str:="in_order.<locals>.<lambda>"
noncomputable def Zpl:Pos:=⟨330,71,330,142⟩
noncomputable def lqL:Str:="law.<locals>.<lambda>"
def LET:List Nat:=[97,98,99,100,101,102,103,104,105,106,107,108,109,110,111,112,113,114,115,116,117,118,119,120,121,122]
noncomputable def isk (l:List Nat):Bool:=decide (1≤l.length)&&decide (l.length≤4)&&(l.all fun c=>LET.contains c)&&decide (signs l=Za4 (ddl (signs l)))
noncomputable def isw (l m:List Nat)(most:Int):Bool:=decide ((l.length:Int)≤most)&&l.all fun c=>m.contains c
noncomputable def Zd9:List Nat→List Nat→Bool
 | _,[]=>true
 | last,c::r=>decide (c∈LET)&&decide (last < [c])&&Zd9 [c] r
noncomputable def ZeK (l:List Nat):Bool:=decide (1≤l.length)&&decide (l.length≤4)&&Zd9 [] l
theorem Zgv {a b:Nat}:([a] < [b])↔a<b:=by
 constructor
 ·intro h;cases h with
  | rel h=>exact h
  | cons h=>cases h
 ·exact fun h=>List.Lex.rel h
theorem Zgb:∀(l:List Nat) (d:Nat),Zd9 [d] l=true↔(∀c∈l,c∈LET)∧(d::l).Pairwise (· < ·)
 | [],d=>by simp[Zd9]
 | c::r,d=>by
  rw[Zd9,YAR,YAR,decide_eq_true_iff,decide_eq_true_iff,Zgv,Zgb r c]
  simp only[YBK,YAK,forall_eq_or_imp]
  constructor
  ·rintro⟨⟨h1,h2⟩,h3,h4,h5⟩
   exact⟨⟨h1,h3⟩,⟨h2,fun x hx=>Nat.lt_trans h2 (h4 x hx)⟩,h4,h5⟩
  ·rintro⟨⟨h1,h3⟩,⟨h2,_⟩,h4,h5⟩
   exact⟨⟨h1,h2⟩,h3,h4,h5⟩
theorem Zci (l:List Nat):Zd9 [] l=true↔(∀c∈l,c∈LET)∧l.Pairwise (· < ·):=by
 cases l with
 | nil=>simp[Zd9]
 | cons c r=>
  rw[Zd9,YAR,YAR,decide_eq_true_iff,decide_eq_true_iff,Zgb r c]
  simp only[YAK,forall_eq_or_imp]
  constructor
  ·rintro⟨⟨h1,_⟩,h3,h4⟩;exact⟨⟨h1,h3⟩,h4⟩
  ·rintro⟨⟨h1,h3⟩,h4⟩;exact⟨⟨h1,by simp⟩,h3,h4⟩
theorem Zd1:∀(ls acc:List (List Nat)),(acc++ls).Nodup→ls.foldl addT acc=acc++ls
 | [],acc,_=>by simp
 | x::ls,acc,h=>by
  have hx:¬x∈acc:=by
   rw[YDB]at h
   exact fun hm=>h.2.2 x hm x YAa rfl
  rw[YCd,addT,YAJ hx,Zd1 ls (acc++[x]) (by simpa using h)]
  simp
theorem ZfG {l:List Nat}(h:l.Pairwise (· < ·)):(signs l).Nodup:=by
 unfold signs List.Nodup
 rw[YBi]
 exact h.imp fun hab e=>by injection e with e;omega
theorem Ziz (ls:List (List Nat)):(ddl ls).Nodup:=by rw[←Zex];exact ZcB _
theorem ZgR (l:List Nat):signs l=Za4 (ddl (signs l))↔l.Pairwise (· < ·):=by
 constructor
 ·intro e
  have h1:(signs l).Pairwise (fun a b=>leT a b=true):=by rw[e];exact Zbe _
  have h2:(signs l).Nodup:=by rw[e];exact(ZaJ _).nodup_iff.mpr (Ziz _)
  unfold signs at h1
  unfold signs List.Nodup at h2
  rw[YBi]at h1 h2
  refine(h1.and h2).imp ?_
  rintro a b ⟨x,y⟩
  have y':a≠b:=fun e=>y (by rw[e])
  have x':¬([b] < [a]):=by simpa [leT] using x
  rw[Zgv]at x'
  omega
 ·intro h
  have e:ddl (signs l)=signs l:=by unfold ddl;rw[Zd1 _ _ (by simpa using ZfG h)];simp
  rw[e]
  refine Zb1 (List.Perm.refl _) ?_
  unfold signs
  rw[YBi]
  refine h.imp fun {a b} hab=>?_
  have:¬([b] < [a]):=by rw[Zgv];omega
  simpa [leT] using this
theorem Zdw (l:List Nat):isk l=ZeK l:=by
 have h1:(l.all fun c=>LET.contains c)=decide (∀c∈l,c∈LET):=by
  rw[YBQ,YBE,decide_eq_true_iff]
  simp
 have h2:decide (signs l=Za4 (ddl (signs l)))=decide (l.Pairwise (· < ·)):=by rw[YBQ,decide_eq_true_iff,decide_eq_true_iff,ZgR]
 have h3:Zd9 [] l=(decide (∀c∈l,c∈LET)&&decide (l.Pairwise (· < ·))):=by rw[YBQ,YAR,decide_eq_true_iff,decide_eq_true_iff,Zci]
 unfold isk ZeK
 rw[h1,h2,h3,Bool.and_assoc]
theorem all_range (l m:List Nat):((List.range l.length).map (fun i=>decide (l.getD i 0∈m))).all id=l.all fun c=>m.contains c:=by
 rw[YBQ,YBE,YBE]
 constructor
 ·intro h c hc
  obtain⟨i,hi,rfl⟩:=List.mem_iff_getElem.mp hc
  have:=h _ (YCP (YBA.mpr hi))
  simpa [YAU,YAM hi] using this
 ·intro h b hb
  obtain⟨i,hi,rfl⟩:=YBX.mp hb
  have hi:=YBA.mp hi
  have:=h _ (YBh hi)
  simpa [YAU,YAM hi] using this
noncomputable def cell (ns:List Int)(k:Int):Int:=ns.getD k.toNat 0
theorem ZlG {ns:List Int}{k:Int}(h0:0≤k)(h1:k<ns.length):atI (ns.map V.int) k=some (.int (cell ns k)):=by
 have hk:k.toNat<ns.length:=by omega
 unfold atI ixN cell
 rw[YAE,YAO h0,YAO h1,YBy,YAo,YAU,YAM hk]
 rfl
theorem Zbl {K:PySem.W.Frag}{H:Hp}{l:List Nat}(h:l.length≤1000):LenV K (tx l) H l.length:=by
 have e:(⟨l.toArray⟩:Str).length=l.length:=by simp[Str.length]
 have:l.length≤sizeLine:=YAP h (by rw[sizeLine_eq];decide)
 exact⟨by rw[e];exact this,e.symm⟩
theorem cm {x y m:Int}(h:0<m)(h2:m≤2 ^ 64):CMul (x % m) y:=.inl ⟨by have:=YBu x (show m≠0 by omega);omega,by have:=YBm x h;omega⟩
theorem Zcy {K:PySem.W.Frag}{t:Value}:PySem.W.kitOne K t t=some true:=by unfold PySem.W.kitOne;simp
theorem ZgK {α:Type}{xs:List α}{i:Int}(h0:0≤i)(h1:i<xs.length):∃v,atI xs i=some v∧v∈xs:=by
 have hi:i.toNat<xs.length:=by omega
 refine⟨xs[i.toNat],?_,YBh hi⟩
 unfold atI ixN
 rw[YAO h0,YAO h1,YBy,YAM hi]
theorem Zes (xs:List (List Nat)):(xs.map tx).all Zbb=true:=by
 rw[YBE]
 intro v hv
 obtain⟨x,_,rfl⟩:=YBX.mp hv
 rfl
theorem same_upd3 {H H2:Hp}{e:Addr}{o':HO}(s:Same H H2)(h:H e=none):Same H (upd H2 e o'):=fun b u hb=>by
 have:b≠e:=fun z=>by rw[z,h]at hb;cases hb
 rw[Zae this];exact s _ _ hb
theorem Zgu:∀ {ls:List (List Nat)},(∀m∈ls,m.length=1)→ls.flatten.length=ls.length
 | [],_=>rfl
 | m::ls,h=>by
  rw[YBk,YAF,Zgu fun x hx=>h x (YAW _ hx),h m YAa,YAn]
  omega
theorem ZcL {α:Type}(p:α→Bool)(d:α)(ls:List α):((List.range ls.length).filter fun i=>p (ls.getD i d)).map (fun i=>ls.getD i d)=ls.filter p:=by
 have e:(List.range ls.length).map (fun i=>ls.getD i d)=ls:=by
  apply YCq
  ·simp
  ·intro i h1 h2
   simp[h2]
 have h:=List.filter_map (p:=p) (f:=fun i=>ls.getD i d) (l:=List.range ls.length)
 rw[e]at h
 rw[h]
 rfl
theorem Zdz {ls:List (List Nat)}{k:Nat}(h:k<ls.length):(ls.map tx).getD k V.non=tx (ls.getD k []):=by
 rw[YAU,YAo,YAU,YAM h]
 rfl
theorem Znn {x:List Nat}{ls:List (List Nat)}:inV (tx x) (ls.map tx)=decide (x∈ls):=by
 unfold inV
 rw[YBQ,List.any_eq_true,decide_eq_true_iff]
 constructor
 ·rintro⟨y,hy,e⟩
  obtain⟨l,hl,rfl⟩:=YBX.mp hy
  rw[Zkf,decide_eq_true_iff,ZdR]at e
  rw[←e];exact hl
 ·intro h
  exact⟨tx x,YCP h,by rw[Zkf];exact decide_eq_true rfl⟩
theorem Ziv:∀(xs ys:List (List Nat)),deqs ((xs.map tx).map DT.f) ((ys.map tx).map DT.f)=decide (xs=ys)
 | [],[]=>by unfold deqs;rfl
 | [],y::ys=>by simp only[YAf,YDV];unfold deqs;rfl
 | x::xs,[]=>by simp only[YAf,YDV];unfold deqs;rfl
 | x::xs,y::ys=>by
  simp only[YAf]
  unfold deqs
  rw[Ziv xs ys]
  have e:deq (DT.f (tx x)) (DT.f (tx y))=decide (x=y):=by
   unfold deq
   rw[←ZcV]
   show ((⟨x.toArray⟩:Str) == ⟨y.toArray⟩)=_
   rw[YBQ,beq_iff_eq,decide_eq_true_iff]
   exact⟨fun h=>by unfold tx;rw[h],fun h=>by unfold tx at h;injection h⟩
  rw[e,YBQ,YAR,decide_eq_true_iff,decide_eq_true_iff,decide_eq_true_iff,List.cons.injEq]
theorem ZiC {ns:List Int}{lo hi:Option Int}{v:V}(h:v∈cutV (ns.map V.int) lo hi):∃c,v=.int c:=by
 have h2:v∈ns.map V.int:=YAZ (YAY h)
 obtain⟨c,_,rfl⟩:=YBX.mp h2
 exact⟨c,rfl⟩
theorem Znx {K:PySem.W.Frag}{H:Hp}{Q:VK}{a b:Addr}{xs ys:List (List Nat)}(h1:SqL K H a (xs.map tx))(h2:SqL K H b (ys.map tx))(q:Q (.bl (decide (xs=ys))) H):rEqD K false (.ref a) (.ref b) H Q:=
 .inr ⟨_,_,datL h1 (Zes _),datL h2 (Zes _),fun z=>YAC z.1,(ownL h1 (Zes _)).2.2,by
  unfold deq
  rw[Ziv]
  exact q⟩
theorem Zla:V.str (Str.ofString "abcdefghijklmnopqrstuvwxyz")=tx LET:=congrArg V.str (by decide +kernel)
theorem Zly (l:List Nat):(ddl (signs l)).length≤l.length:=by
 have:∀(ls acc:List (List Nat)),(ls.foldl addT acc).length≤acc.length+ls.length:=by
  intro ls
  induction ls with
  | nil=>intro acc;simp
  | cons x ls ih=>
   intro acc
   rw[YCd]
   refine YAP (ih _) ?_
   unfold addT
   split<;>simp<;>omega
 have h:=this (signs l) []
 unfold ddl
 unfold signs at h ⊢
 simpa using h
theorem signs_length (l:List Nat):(signs l).length=l.length:=by unfold signs;rw[YAE]
theorem kit_is {K:PySem.W.Frag}:PySem.W.kitOne K (.type "int") (.type "str")=some false:=by rfl
theorem Zm8 {K:PySem.W.Frag}:PySem.W.kitOne K (.type "int") (.type "bool")=some false:=by rfl
noncomputable def flds (l m:List Nat):List (Str×V):=putF "own_kinds" (tx m) (putF "own_text" (tx l) [])
theorem kt:¬(("own_text":Str)="own_kinds"):=by decide +kernel
theorem Zit {l m:List Nat}:(flds l m).lookup ("own_text":Str)=some (tx l):=by unfold flds;rw[Zar,YAJ kt,Zar,YAO rfl]
theorem Zhh {l m:List Nat}:(flds l m).lookup ("own_kinds":Str)=some (tx m):=by unfold flds;rw[Zar,YAO rfl]
theorem ZcK {l m:List Nat} {x:Str} (h1:¬x="own_text") (h2:¬x="own_kinds"):(flds l m).lookup x=none:=by
 unfold flds
 rw[Zar,YAJ h2,Zar,YAJ h1]
 rfl
def RingAt (C:Addr)(H:Hp)(p:Addr)(l m:List Nat):Prop:=∃dx,H p=some (.ins C dx (flds l m))
theorem RingAt.same {C:Addr}{H H':Hp}{p:Addr}{l m:List Nat}(r:RingAt C H p l m)(s:Same H H'):RingAt C H' p l m:=let ⟨dx,h⟩:=r;⟨dx,s _ _ h⟩
structure StripOk (l m:List Nat):Prop where
 k:isk m=true
 m1:1≤m.length
 m4:m.length≤4
 l40:l.length≤40
 mem:∀x∈l,x∈m
theorem Zpt (ls:List (List Nat)):(ddl ls).length≤ls.length:=by
 have:∀(ls acc:List (List Nat)),(ls.foldl addT acc).length≤acc.length+ls.length:=by
  intro ls
  induction ls with
  | nil=>intro acc;simp
  | cons x ls ih=>
   intro acc
   rw[YCd]
   refine YAP (ih _) ?_
   unfold addT
   split<;>simp<;>omega
 simpa [ddl] using this ls []
theorem Zni {l m:List Nat}(h:StripOk l m):isw l m 40=true:=by
 have h2:=h.l40
 unfold isw
 rw[YAR,decide_eq_true_iff,YBE]
 exact⟨by omega,fun x hx=>by simpa using h.mem x hx⟩
theorem Znk {m:List Nat}(h1:1≤m.length)(h4:m.length≤4)(hm:∀c∈m,c∈LET)(hp:m.Pairwise (· < ·)):isk m=true:=by
 rw[Zdw]
 unfold ZeK
 rw[(Zci m).mpr ⟨hm,hp⟩]
 simp[h1,h4]
theorem Zlz (l:List Nat){i:Int}(h:0≤i):cut l none (some i)=l.take i.toNat:=by
 obtain⟨k,rfl⟩:∃k:Nat,i=(k:Int):=⟨i.toNat,by omega⟩
 rw[Zfp,YBa]
theorem ZlA (l:List Nat){i:Int}(h:0≤i):cut l (some i) none=l.drop i.toNat:=by
 obtain⟨k,rfl⟩:∃k:Nat,i=(k:Int):=⟨i.toNat,by omega⟩
 rw[Zb5,YBa]
theorem iteT' {p q:Prop}[Decidable True](h:p):if True then p else q:=by rw[YAO True.intro];exact h
theorem Zed (l:List Nat)(n:Int):(repT l n).length=n.toNat*l.length:=by unfold repT;simp
theorem Zi6 {l:List Nat}{n:Int}{x:Nat}(h:x∈repT l n):x∈l:=by
 unfold repT at h
 obtain⟨y,hy,hx⟩:=List.mem_flatten.mp h
 rw[(List.mem_replicate.mp hy).2]at hx
 exact hx
theorem fill {f m:List Nat}{n:Nat}{e:Int}(hn:0<n)(hf:f.length=n)(hm:∀x∈f,x∈m)(he:1≤e):(cut (repT (cut f none (some e)) (n:Nat)) none (some ((n:Nat):Int))).length=n∧∀x∈cut (repT (cut f none (some e)) (n:Nat)) none (some ((n:Nat):Int)),x∈m:=by
 rw[Zfp,Zlz f (by omega)]
 have ht:1≤(f.take e.toNat).length:=by rw[YAb];omega
 have hl:n≤(repT (f.take e.toNat) (n:Nat)).length:=by
  rw[Zed,YBa]
  exact Nat.le_mul_of_pos_right n ht
 refine⟨by rw[YAb];omega,fun x hx=>?_⟩
 exact hm x (YAY (Zi6 (YAY hx)))
theorem put1 {f m:List Nat}{n c:Nat}{i:Int}(hf:f.length=n)(hm:∀x∈f,x∈m)(hc:c∈m)(h0:0≤i)(h1:i<(n:Nat)):(cut f none (some i)++[c]++cut f (some (i+1)) none).length=n∧∀x∈cut f none (some i)++[c]++cut f (some (i+1)) none,x∈m:=by
 rw[Zlz f h0,ZlA f (by omega)]
 refine⟨by rw[YAF,YAF,YAb,YAm,YAp];omega,fun x hx=>?_⟩
 rcases YAe.mp hx with hx | hx
 ·rcases YAe.mp hx with hx | hx
  ·exact hm x (YAY hx)
  ·rw[YAS.mp hx];exact hc
 ·exact hm x (YAZ hx)
theorem Zpr {K:PySem.W.Frag}{H:Hp}{Q:VK}{x:List Nat}(h:Q (.bl true) H):rEqD K false (tx x) (tx x) H Q:=.inl ⟨rfl,by rw[YAJ YAC,decide_eq_true rfl];exact h⟩
theorem ne_int {K:PySem.W.Frag}{H:Hp}{Q:VK}{x:Int}(h:Q (.bl false) H):rEqD K true (.int x) (.int x) H Q:=.inl ⟨rfl,by rw[YAO rfl,decide_eq_true rfl];exact h⟩
theorem eq_int {K:PySem.W.Frag}{H:Hp}{Q:VK}{x:Int}(h:Q (.bl true) H):rEqD K false (.int x) (.int x) H Q:=.inl ⟨rfl,by rw[YAJ YAC,decide_eq_true rfl];exact h⟩
theorem ZiD (w:List Nat):cut w none (some (-1))=w.dropLast:=by
 unfold cut
 have e1:HT.sIx w.length w.length (some (-1))=w.length-1:=by
  unfold HT.sIx
  simp only[]
  rw[YAO (by decide)]
  omega
 have e2:HT.sIx w.length 0 none=0:=rfl
 rw[e1,e2,YBb,YDE]
 rfl
theorem Zf0 (w:List Nat):cut w (some 1) none=w.tail:=by
 have:=Zb5 w 1
 rw[List.drop_one]at this
 exact this
theorem Zdr {α β:Type}(f:α→β):∀(l:List α) (k:Nat),(l.map f).eraseIdx k=(l.eraseIdx k).map f
 | [],k=>by simp
 | x::l,0=>by simp
 | x::l,k+1=>by simp[Zdr f l k]
theorem ZdW:∀ {ls:List (List Nat)},(∀m∈ls,m.length=1)→ls=signs ls.flatten
 | [],_=>rfl
 | m::ls,h=>by
  have h1:=h m YAa
  match m,h1 with
  | [c],_=>
   have ih:=ZdW (ls:=ls) fun x hx=>h x (YAW _ hx)
   rw[YBk]
   show [c]::ls=[c]::signs ls.flatten
   rw[←ih]
theorem Zhe {F:List Nat}(nd:F.Nodup)(sub:∀c∈F,c∈LET)(h1:1≤F.length)(h4:F.length≤4):isk (Za4 (signs F)).flatten=true∧(Za4 (signs F)).flatten.length=F.length:=by
 have pm:=ZaJ (signs F)
 have one:∀m∈Za4 (signs F),m.length=1:=fun m hm=>by
  obtain⟨c,_,rfl⟩:=YBX.mp (pm.mem_iff.mp hm)
  rfl
 have e:=ZdW one
 have hl:(Za4 (signs F)).flatten.length=F.length:=by rw[Zgu one,pm.length_eq];unfold signs;rw[YAE]
 have so:=Zbe (signs F)
 have nd2:(Za4 (signs F)).Nodup:=pm.nodup_iff.mpr (by
  unfold signs List.Nodup
  rw[YBi]
  exact nd.imp fun hab z=>hab (by injection z))
 have mem:∀c∈(Za4 (signs F)).flatten,c∈LET:=fun c hc=>by
  obtain⟨x,hx,hcx⟩:=List.mem_flatten.mp hc
  obtain⟨d,hd,rfl⟩:=YBX.mp (pm.mem_iff.mp hx)
  rw[YAS.mp hcx]
  exact sub d hd
 generalize (Za4 (signs F)).flatten=S at e hl mem
 rw[e]at so nd2
 unfold signs at so nd2
 unfold List.Nodup at nd2
 rw[YBi]at so nd2
 refine⟨Znk (by omega) (by omega) mem ((so.and nd2).imp ?_),hl⟩
 rintro a b ⟨x,y⟩
 have y':a≠b:=fun z=>y (by rw[z])
 have x':¬([b] < [a]):=by simpa [leT] using x
 rw[Zgv]at x'
 omega
theorem Zhb {l m:List Nat}{i:Nat}(hm:m.length≤4)(hl:l.length≤40)(hi:i≤41):(Zfb l m i).length≤6724:=by
 have h1:∀k,(Zfd (wordsOf l k) (wordsOf l (k+1)) m).length≤164:=fun k=>YAP (Zig _ _ _) (YAP (Nat.mul_le_mul (Zfx l k) hm) (by omega))
 have h2:=Zcf (f:=fun k=>Zfd (wordsOf l k) (wordsOf l (k+1)) m) h1 (List.range i)
 rw[YBV]at h2
 have:i*164≤41*164:=Nat.mul_le_mul_right _ hi
 unfold Zfb
 omega
theorem Zcx {l m w:List Nat}(hl:l.length≤40)(h:w∈ZaN l m):w.length≤41:=by
 have:=(ZaV.mp h).1.init.len
 rw[YBI]at this
 omega
theorem ZbP {α:Type}{l:List α}{i:Nat}{x:α}(h:l[i]?=some x):l.take (i+1)=l.take i++[x]:=by rw[List.take_succ,h];rfl
theorem Zbn:∀(l:List Nat) (k:Nat) (h:k<l.length),(l[k]::l.eraseIdx k).Perm l
 | x::l,0,h=>by simp
 | x::l,k+1,h=>by
  simp only[List.getElem_cons_succ,List.eraseIdx_cons_succ]
  exact(List.Perm.swap _ _ _).trans ((Zbn l k (by simpa using h)).cons x)
theorem Zh5 {x:Nat}{l:List Nat}{lo hi:Option Int}(h:x∈cut l lo hi):x∈l:=YAZ (YAY h)
noncomputable def fs1 (f:Str):List V→List (Str×V):=fun r=>putF f (r.getD 0 .non) []
theorem ZfS {f:Str}{vs:List V}:(fs1 f vs).lookup f=some (vs.getD 0 .non):=by unfold fs1;rw[Zar,YAO rfl]
def Zkp (K:PySem.W.Frag)(H:Hp)(v:V):Prop:=(∃d,Own K H d v)∨∃(a:Addr) (kvs:List (Key×V)),v=.ref a∧H a=some (.dK kvs)
def Oth (K:PySem.W.Frag)(H:Hp)(v:V):Prop:=∃T b,TyX K H v (.type T)∧PySem.W.kitOne K (.type T) (.type "str")=some false∧PySem.W.kitOne K (.type T) (.type "bool")=some b∧Zkp K H v
def BadK (K:PySem.W.Frag)(H:Hp)(v:V):Prop:=(∃l:List Nat,v=tx l∧l.length≤1000∧isk l=false)∨Oth K H v
def BadW (K:PySem.W.Frag)(H:Hp)(v:V)(m:List Nat)(most:Int):Prop:=(∃l:List Nat,v=tx l∧l.length≤1000∧isw l m most=false)∨Oth K H v
def XNk (a:Ad)(E:XK)(H:Hp):Prop:=∀e H2,Same H H2→XAny H2 e a.c_K3 []→E (.ref a.c_K3) (some e) H2
def XNw (a:Ad)(E:XK)(H:Hp)(v:V):Prop:=∀e H2,Same H H2→XAny H2 e a.c_K8 (fs1 "word" [v])→E (.ref a.c_K8) (some e) H2
structure KOk (m:List Nat):Prop where
 k:isk m=true
 m1:1≤m.length
 m4:m.length≤4
theorem StripOk.kok {l m:List Nat}(h:StripOk l m):KOk m:=⟨h.k,h.m1,h.m4⟩
theorem KOk.lets {m:List Nat}(h:KOk m):∀c∈m,97≤c∧c≤122:=by
 have h1:=h.k
 rw[Zdw]at h1
 unfold ZeK at h1
 rw[YAR]at h1
 intro c hc
 have:=((Zci m).mp h1.2).1 c hc
 have h:∀c∈LET,97≤c∧c≤122:=by decide
 exact h c this
theorem ZcI {l m:List Nat}{c:Nat}{most:Int}(h:c∈l)(hc:c∉m):isw l m most=false:=by
 unfold isw
 rw[Bool.and_eq_false_iff]
 right
 rw[List.all_eq_false]
 exact⟨c,h,by simpa using hc⟩
theorem Zjv {l m:List Nat}{most:Int}(h:most<l.length):isw l m most=false:=by
 unfold isw
 rw[Bool.and_eq_false_iff]
 left
 rw[decide_eq_false_iff_not]
 omega
theorem Zli {l m:List Nat}{most:Int}(h:(l.length:Int)≤most)(hm:∀x∈l,x∈m):isw l m most=true:=by
 unfold isw
 rw[YAR,decide_eq_true_iff,YBE]
 exact⟨h,fun x hx=>by simpa using hm x hx⟩
theorem ZbR {H:Hp}{e:Addr}{o o':HO}(h:H e=none):Same H (upd (upd H e o) e o'):=fun b u hb=>by
 have:b≠e:=fun z=>by rw[z,h]at hb;cases hb
 rw[Zae this,Zae this];exact hb
theorem ZeQ {H:Hp}{e C:Addr}{fs:List (Str×V)}(x:XAt H e C fs):∃d,H e=some (xo e C d)∧XAny (upd H e (xr e C d)) e C fs:=by
 cases x with
 | bare h=>exact⟨none,h,.bare Zad⟩
 | @full d _ h1 h2 h3=>exact⟨some d,h1,.full Zad (by rw[Zae h3];exact h2) h3⟩
theorem TyX.same {K:PySem.W.Frag}{H H':Hp}{v:V}{t:Value}(h:TyX K H v t)(s:Same H H'):TyX K H' v t:=by
 cases h with
 | pl h=>
  refine .pl ?_
  cases h with
  | non=>exact .non
  | bl x=>exact .bl x
  | int i=>exact .int i
  | str x=>exact .str x
  | flt x=>exact .flt x
  | lst e=>exact .lst (s _ _ e)
  | frz e=>exact .frz (s _ _ e)
  | tup e=>exact .tup (s _ _ e)
  | dK e=>exact .dK (s _ _ e)
  | dT e=>exact .dT (s _ _ e)
  | ins e cl ha hn htk hm=>exact .ins (s _ _ e) cl ha hn htk hm
 | seqL h=>exact .seqL (s.seq h)
 | seqT h=>exact .seqT (s.seqT h)
 | exc x i=>exact .exc (x.same s) i
theorem Oth.same {K:PySem.W.Frag}{H H':Hp}{v:V}(o:Oth K H v)(s:Same H H'):Oth K H' v:=by
 obtain⟨T,b,ty,kt,kb,se⟩:=o
 refine⟨T,b,TyX.same ty s,kt,kb,?_⟩
 rcases se with⟨d,o⟩|⟨b,kvs,rfl,hb⟩
 ·exact .inl ⟨d,o.same s⟩
 ·exact .inr ⟨b,kvs,rfl,s _ _ hb⟩
theorem BadW.same {K:PySem.W.Frag}{H H':Hp}{v:V}{m:List Nat}{most:Int}(o:BadW K H v m most)(s:Same H H'):BadW K H' v m most:=o.imp id fun o=>o.same s
theorem Znb {K:PySem.W.Frag}:PySem.W.kitOne K (.type "bool") (.type "str")=some false:=by rfl
theorem Zm5 {K:PySem.W.Frag}:PySem.W.kitOne K (.type "NoneType") (.type "str")=some false:=by rfl
theorem Zm6 {K:PySem.W.Frag}:PySem.W.kitOne K (.type "list") (.type "str")=some false:=by rfl
theorem Zld {K:PySem.W.Frag}:PySem.W.kitOne K (.type "tuple") (.type "str")=some false:=by rfl
theorem Zm9 {K:PySem.W.Frag}:PySem.W.kitOne K (.type "dict") (.type "str")=some false:=by rfl
theorem kit_nb {K:PySem.W.Frag}:PySem.W.kitOne K (.type "NoneType") (.type "bool")=some false:=by rfl
theorem Zm7 {K:PySem.W.Frag}:PySem.W.kitOne K (.type "list") (.type "bool")=some false:=by rfl
theorem Zle {K:PySem.W.Frag}:PySem.W.kitOne K (.type "tuple") (.type "bool")=some false:=by rfl
theorem Zna {K:PySem.W.Frag}:PySem.W.kitOne K (.type "dict") (.type "bool")=some false:=by rfl
theorem Zm4 {K:PySem.W.Frag}:PySem.W.kitOne K (.type "str") (.type "bool")=some false:=by rfl
theorem ZhW {K:PySem.W.Frag}{H:Hp}{i:Int}:Oth K H (.int i):=⟨"int",false,.pl (.int _),kit_is,Zm8,.inl ⟨_,ownF rfl⟩⟩
theorem Zmr {K:PySem.W.Frag}{H:Hp}{i:Bool}:Oth K H (.bl i):=⟨"bool",true,.pl (.bl _),Znb,Zcy,.inl ⟨_,ownF rfl⟩⟩
theorem ZkZ {K:PySem.W.Frag}{H:Hp}:Oth K H .non:=⟨"NoneType",false,.pl .non,Zm5,kit_nb,.inl ⟨_,ownF rfl⟩⟩
theorem ZhV {K:PySem.W.Frag}{H:Hp}{a:Addr}{xs:List V}(h:H a=some (.lst xs))(hf:xs.all Zbb=true):Oth K H (.ref a):=⟨"list",false,.seqL (.mk h),Zm6,Zm7,.inl ⟨_,ownL (.mk h) hf⟩⟩
theorem ZkY {K:PySem.W.Frag}{H:Hp}{a:Addr}{xs:List V}(h:H a=some (.tup xs))(hf:xs.all Zbb=true):Oth K H (.ref a):=⟨"tuple",false,.seqT (.mk h),Zld,Zle,.inl ⟨_,ownT (.mk h) hf⟩⟩
theorem Zj3 {K:PySem.W.Frag}{H:Hp}{a:Addr}{kvs:List (Key×V)}(h:H a=some (.dK kvs)):Oth K H (.ref a):=⟨"dict",false,.pl (.dK h),Zm9,Zna,.inr ⟨_,_,rfl,h⟩⟩
noncomputable def Zif (l x:List Nat):Bool:=!infB x l&&(infB x.tail l&&infB x.dropLast l)
theorem len_sub:∀(l m:List Nat),l.Nodup→(∀x∈l,x∈m)→l.length≤m.length
 | [],m,_,_=>YAz _
 | x::l,m,nd,h=>by
  have hx:=h x YAa
  have nd':=YBr.mp nd
  have:=len_sub l (m.erase x) nd'.2 fun y hy=>(List.mem_erase_of_ne (fun e=>by rw[e]at hy;exact nd'.1 hy)).mpr (h y (YAW _ hy))
  rw[List.length_erase_of_mem hx]at this
  have pos:0<m.length:=List.length_pos_of_mem hx
  rw[YAn]
  omega
theorem ZmR {m A:List Nat}(nd:A.Nodup)(h:m.length<A.length):∃c rest,((List.range A.length).filter fun i=>!decide (A.getD i 0∈m)).map (fun i=>tx [A.getD i 0])=tx [c]::rest∧c∉m∧c∈A:=by
 have e:((List.range A.length).filter fun i=>!decide (A.getD i 0∈m)).map (fun i=>tx [A.getD i 0])=(A.filter fun c=>!decide (c∈m)).map fun c=>tx [c]:=by
  rw[←ZcL (fun c=>!decide (c∈m)) 0 A,YBZ]
  rfl
 rw[e]
 cases z:A.filter fun c=>!decide (c∈m) with
 | nil=>
  have:=len_sub A m nd fun x hx=>by
   have:=List.filter_eq_nil_iff.mp z x hx
   simpa using this
  omega
 | cons c r=>
  have hc:c∈A.filter fun c=>!decide (c∈m):=by rw[z];exact YAa
  obtain⟨h1,h2⟩:=YCL.mp hc
  exact⟨c,_,rfl,by simpa using h2,h1⟩
theorem ZjA {m:List Nat}(h:1≤m.length):∃c,atI m 0=some c∧c∈m:=ZgK (Int.le_refl _) (by omega)
theorem rep1 (c:Nat)(n:Int):repT [c] n=List.replicate n.toNat c:=by
 unfold repT
 generalize n.toNat=k
 induction k with
 | zero=>rfl
 | succ k ih=>rw[YDP,YBk,ih,YDP];rfl
theorem KOk.out {m:List Nat}(h:KOk m){c:Nat}(hc:¬(97≤c∧c≤122)):c∉m:=fun z=>hc (h.lets c z)
theorem atI0 {α:Type}{x:α}{xs:List α}:atI (x::xs) 0=some x:=by
 unfold atI ixN
 rw[YAO (Int.le_refl _),YAO (by rw[YAn];omega)]
 rfl
noncomputable def placesOf (l w:List Nat):List Nat:=(List.range (l.length+1-w.length)).filter fun i=>decide ((l.drop i).take w.length=w)
noncomputable def plV:Option Nat→V
 | none=>.non
 | some i=>.int i
theorem Zj8 {w m:List Nat}(h:isw w m 60=true):w.length≤60:=by
 unfold isw at h
 rw[YAR,decide_eq_true_eq]at h
 omega
def RowF (H:Hp)(l w:List Nat)(y:V):Prop:=∃t:Addr,y=.ref t∧H t=some (.tup [tx w,.int (fpl l w.dropLast:Nat),.int (fpl l w.tail:Nat)])
def ZnF (H:Hp)(l:List Nat)(ws:List (List Nat))(ys:List V):Prop:=ys.length=ws.length∧∀(i:Nat) (y:V),ys[i]?=some y→∃w,ws[i]?=some w∧RowF H l w y
def Zpu (H:Hp)(x y:V):Prop:=(x=y∧((∃l,x=tx l)∨∃i,x=.int i))∨∃(px py:Addr) (vs:List V),x=.ref px∧y=.ref py∧H px=some (.tup vs)∧H py=some (.tup vs)∧vs.length≤1000∧∀v∈vs,(∃l,v=tx l)∨∃i,v=.int i
theorem Zjw {m:List Nat}(h:isk m=true):m.Pairwise (· < ·):=by
 rw[Zdw]at h
 unfold ZeK at h
 rw[YAR]at h
 exact((Zci m).mp h.2).2
theorem Zmb {H:Hp}{l:List Nat}{W:List (List Nat)}{zs ys:List V}(hZ:ZnF H l W zs)(hR:ZnF H l W ys)(i:Nat)(x y:V)(hx:zs[i]?=some x)(hy:ys[i]?=some y):Zpu H x y:=by
 obtain⟨w,hw,t,e,h⟩:=hZ.2 i x hx
 obtain⟨w2,hw2,t2,e2,h2⟩:=hR.2 i y hy
 obtain rfl:w=w2:=Option.some.inj (hw.symm.trans hw2)
 refine .inr ⟨t,t2,_,e,e2,h,h2,by simp,fun v hv=>?_⟩
 simp only[YAK,YBn,or_false]at hv
 rcases hv with rfl | rfl | rfl
 ·exact .inl ⟨_,rfl⟩
 ·exact .inr ⟨_,rfl⟩
 ·exact .inr ⟨_,rfl⟩
noncomputable def isl (l m:List Nat):Bool:=isw l m 1&&decide ((l.length:Int)=1)
def BadL (K:PySem.W.Frag)(H:Hp)(v:V)(m:List Nat):Prop:=(∃l:List Nat,v=tx l∧l.length≤1000∧isl l m=false)∨Oth K H v
def XN0 (C:Addr)(E:XK)(H:Hp):Prop:=∀e H2,Same H H2→XAny H2 e C []→E (.ref C) (some e) H2
theorem KOk.kinds {m:List Nat}(h:KOk m):KindsOk m:=⟨h.k,h.m1,h.m4,Zjw h.k⟩
theorem Zin {c:Nat}{m:List Nat}(h:c∈m):isl [c] m=true:=by
 unfold isl
 rw[Zli (by show ((1:Nat):Int)≤1;decide) (fun x hx=>by rw[YAS.mp hx];exact h)]
 rfl
theorem Zfc {l x:List Nat}(ne:x≠[]):Zif l x=true↔Miss l x:=by
 unfold Zif
 rw[YAR,YAR,Bool.not_eq_true',ZgA,Zc8,Zc8]
 constructor
 ·rintro⟨a,b,c⟩;exact⟨ne,c,b,a⟩
 ·rintro⟨_,c,b,a⟩;exact⟨a,b,c⟩
noncomputable def ZaY (L:List Nat)(i:Nat):List (List Nat):=(List.range i).flatMap fun k=>[L.take (k+1),L.drop (L.length-(k+1))]
theorem Zd2 (L:List Nat)(i:Nat):ZaY L (i+1)=ZaY L i++[L.take (i+1),L.drop (L.length-(i+1))]:=by
 unfold ZaY
 rw[YBq,List.flatMap_append,List.flatMap_singleton]
theorem ZcA (L:List Nat):∀i,(ZaY L i).length=2*i
 | 0=>rfl
 | i+1=>by rw[Zd2,YAF,ZcA L i];simp;omega
theorem Ze4 {L w:List Nat}{i:Nat}:w∈ZaY L i↔∃k,1≤k∧k≤i∧(w=L.take k∨w=L.drop (L.length-k)):=by
 unfold ZaY
 rw[List.mem_flatMap]
 constructor
 ·rintro⟨k,hk,h⟩
  have hk:=YBA.mp hk
  simp only[YAK,YBn,or_false]at h
  exact⟨k+1,by omega,by omega,h⟩
 ·rintro⟨k,h1,h2,h⟩
  refine⟨k-1,YBA.mpr (by omega),?_⟩
  have e:k-1+1=k:=by omega
  rw[e]
  simpa using h
theorem Zgi {H:Hp}{zs:List V}{rs:List (List Nat×List V)}(h:RowsA H zs rs){i:Nat}(hi:i<zs.length):∃t u,zs.getD i .non=.ref t∧H t=some (.tup [tx ((rs.map (·.1)).getD i []),u]):=by
 obtain⟨r,hr,t,b,e,h1,_⟩:=h.2 i zs[i] (YAM hi)
 refine⟨t,.ref b,by rw[YAU,YAM hi];exact e,?_⟩
 rw[h1,YAU,YAo,hr]
 rfl
theorem ZiE {rs:List (List Nat×List V)}{n:Nat}(h:n=rs.length):((List.range n).filter fun _=>true).map (fun i=>tx ((rs.map (·.1)).getD i []))=(rs.map (·.1)).map tx:=by
 subst h
 rw[List.filter_eq_self.mpr (fun _ _=>rfl)]
 apply YCq (by simp)
 intro i h1 h2
 have hi:i<rs.length:=by simpa using h2
 simp[YAU,YAM hi]
theorem ZfO {kvs:List (Key×V)}{k:Key}{v:V}(h:valV kvs k=some v):k∈kvs.map (·.1):=by
 unfold valV at h
 obtain⟨p,hp,_⟩:=Option.map_eq_some_iff.mp h
 have e:p.1=k:=by simpa using List.find?_some hp
 rw[←e]
 exact YCP (List.mem_of_find?_eq_some hp)
theorem Zjs {k:Key}(l:List (Key×V))(v:V)(h:k∈l.map (·.1)):(putK l k v).map (·.1)=l.map (·.1):=by
 unfold putK
 have ha:(l.any fun kv=>decide (kv.1=k))=true:=by
  obtain⟨p,hp,e⟩:=YBX.mp h
  exact List.any_eq_true.mpr ⟨p,hp,decide_eq_true e⟩
 rw[YAO ha,YBZ]
 refine YDQ fun p _=>?_
 show (if p.1=k then (p.1,v) else p).1=p.1
 split<;>rfl
structure DI (H:Hp)(s L rs:List Nat)(S:List Nat→Prop)(kvs:List (Key×V))(ws:List (List Nat)):Prop where
 keys:kvs.map (·.1)=ws.map kTx
 nd:ws.Nodup
 mem:∀w,w∈ws↔Miss L w∧S w
 val:∀w∈ws,∃b,valV kvs (kTx w)=some (.ref b)∧H b=some (.tup [tx rs,tx (shOf s w),.int (fpl L (shOf s w):Nat)])
theorem DI.grow {H H':Hp}{s L rs:List Nat}{S S':List Nat→Prop}{kvs:List (Key×V)}{ws:List (List Nat)}(h:DI H s L rs S kvs ws)(sm:∀b us,H b=some (.tup us)→H' b=some (.tup us))(hS:∀w,Miss L w→(S w↔S' w)):DI H' s L rs S' kvs ws:=
 ⟨h.keys,h.nd,fun w=>(h.mem w).trans ⟨fun ⟨a,b⟩=>⟨a,(hS w a).mp b⟩,fun ⟨a,b⟩=>⟨a,(hS w a).mpr b⟩⟩,fun w hw=>let ⟨b,h1,h2⟩:=h.val w hw;⟨b,h1,sm _ _ h2⟩⟩
theorem DI.put {H:Hp}{s L rs:List Nat}{S:List Nat→Prop}{kvs:List (Key×V)}{ws:List (List Nat)}{x:List Nat}{b:Addr}(h:DI H s L rs S kvs ws)(mx:Miss L x)(hb:H b=some (.tup [tx rs,tx (shOf s x),.int (fpl L (shOf s x):Nat)])):
  ∃ws',DI H s L rs (fun w=>S w∨w=x) (putK kvs (kTx x) (.ref b)) ws':=by
 by_cases hx:x∈ws
 ·refine⟨ws,?_,h.nd,fun w=>?_,fun w hw=>?_⟩
  ·rw[Zjs,h.keys]
   rw[h.keys]
   exact YCP hx
  ·rw[h.mem]
   constructor
   ·rintro⟨a,c⟩;exact⟨a,.inl c⟩
   ·rintro⟨a,c | rfl⟩
    ·exact⟨a,c⟩
    ·exact(h.mem w).mp hx
  ·rw[Zf9]
   by_cases e:w=x
   ·subst e
    exact⟨b,by rw[YAO rfl],hb⟩
   ·rw[YAJ (fun z=>e (ZfQ z))]
    exact h.val w hw
 ·have hv:valV kvs (kTx x)=none:=by
   cases e:valV kvs (kTx x) with
   | none=>rfl
   | some v=>
    exfalso
    have:=ZfO e
    rw[h.keys]at this
    obtain⟨y,hy,e2⟩:=YBX.mp this
    exact hx (ZfQ e2▸hy)
  refine⟨ws++[x],?_,?_,fun w=>?_,fun w hw=>?_⟩
  ·rw[Zi8 _ hv,YCM,h.keys,YCM];rfl
  ·rw[YDB]
   refine⟨h.nd,by simp,fun a ha c hc e=>?_⟩
   rw[YAS.mp hc]at e
   exact hx (e▸ha)
  ·rw[YAe,YAS,h.mem]
   constructor
   ·rintro (⟨a,c⟩ | rfl)
    ·exact⟨a,.inl c⟩
    ·exact⟨mx,.inr rfl⟩
   ·rintro⟨a,c | rfl⟩
    ·exact .inl ⟨a,c⟩
    ·exact .inr rfl
  ·rw[Zf9]
   by_cases e:w=x
   ·subst e
    exact⟨b,by rw[YAO rfl],hb⟩
   ·rw[YAJ (fun z=>e (ZfQ z))]
    rcases YAe.mp hw with z | z
    ·exact h.val w z
    ·exact absurd (YAS.mp z) e
theorem ZiR {H H':Hp}{P pd:Addr}{pos:Pos}{q:Str}{o0:HO}(T:TblOk H P pos q)(k:∀b o,H b=some o→b≠pd→H' b=some o)(h:H pd=some o0)(t:Zeo o0=false)(x:Znm o0=false):TblOk H' P pos q:=by
 obtain⟨ps,e,tr,hc⟩:=T
 refine⟨ps,k _ _ e (fun z=>by rw[z,h]at e;cases e;cases t),tr,hc.imp id ?_⟩
 rintro⟨c,e1,e2⟩
 exact⟨c,e1,k _ _ e2 (fun z=>by rw[z,h]at e2;unfold ZdP at e2;cases e2;cases x)⟩
theorem ZbT (rs s L m:List Nat):(Zdj rs s L m).map (·.1)=opnL s L m:=by unfold Zdj;rw[YBZ];exact List.map_id' _
theorem ZbU (rs s L m:List Nat):(ZdM rs s L m).map (·.1)=filL s L m:=by unfold ZdM;rw[YBZ];exact List.map_id' _
theorem ZbE {l m:List Nat}(hm:m.length≤4)(hl:l.length≤40):(ZaN l m).length≤6724:=Zhb hm hl (by omega)
theorem Zc7 {C:Addr}{H H3 H4:Hp}{p la da t c g la2:Addr}{l l2 m:List Nat}{ds ds2:List (Bool×Nat)}{ts2:List V}{rc rg:List (List Nat×List V)}
  (hp:StripAt C H p la da l m ds) (c3:Chg [da] H H3) (d3:H3 da=some (.lst ts2)) (e3:DeedsA H3 ts2 ds2) (ch:Chg [p] H3 H4) (f4:ZcX C H4 p la2 da l2 m) (l4:H4 la2=some (.lst ((ZaN l2 m).map tx))) (an:AnsS H3 H4 t c g la2 rc rg) (run:Run m ds2 l2):
  Chg [p,da] H H4∧StripAt C H4 p la2 da l2 m ds2∧AnsS H H4 t c g la2 rc rg:=by
 obtain⟨⟨dx,f⟩,hk,⟨ts,d1,d2⟩,_,ok,nld⟩:=id hp
 have npd:p≠da:=fun z=>by rw[z,d1]at f;cases f
 have f3:=c3 _ _ f (by simpa using npd) rfl
 have nw:∀r,Nw H3 r→Nw H r:=fun r n=>n.chg c3 fun b hb=>by obtain rfl:=YAS.mp hb;exact⟨_,d3,rfl⟩
 refine⟨(c3.mono (by simp)).trans (ch.mono (by simp)),⟨f4,l4,⟨ts2,ch _ _ d3 (by simpa using YAx npd) rfl,e3.chg ch fun b hb us z=>by rw[YAS.mp hb,f3]at z;cases z⟩,run,ok,YAx (an.nl.ne d3 rfl)⟩,⟨an.tup,an.came,an.went,nw _ an.nc,nw _ an.ng,nw _ an.nl,an.ncg,an.ncl,an.ngl⟩⟩
theorem ZhB {C:Addr}{H:Hp}{p la da:Addr}{l m:List Nat}{ds:List (Bool×Nat)}(h:StripAt C H p la da l m ds):StripOk l m:=⟨h.ok.k,h.ok.m1,h.ok.m4,h.run.len,h.run.mem⟩
noncomputable def okN (x:Str):Bool:=!decide (x="own_text")&&!decide (x="own_kinds")&&!decide (x="own_lacking")&&!decide (x="own_deeds")
theorem sN {l m:List Nat}{la da:Addr}{x:Str}(h:okN x=true):(sF l m la da).lookup x=none:=by
 unfold okN at h
 simp only[YAR,Bool.not_eq_true',decide_eq_false_iff_not]at h
 exact ZoS h.1.1.1 h.1.1.2 h.1.2 h.2
def TextAt (a:Ad)(H:Hp)(p:Addr)(l:List Nat):Prop:=∃C dx fs,(C=a.c_LF∨C=a.c_LG)∧H p=some (.ins C dx fs)∧fs.lookup (Str.ofString "own_text")=some (tx l)∧fs.lookup (Str.ofString "text")=none
theorem TextAt.same {a:Ad}{H H':Hp}{p:Addr}{l:List Nat}(h:TextAt a H p l)(s:Same H H'):TextAt a H' p l:=let ⟨C,dx,fs,h1,h2,h3⟩:=h;⟨C,dx,fs,h1,s _ _ h2,h3⟩
def BandT (a:Ad)(H:Hp)(p:Addr)(l m:List Nat):Prop:=∃C dx fs,(C=a.c_LF∨C=a.c_LG)∧H p=some (.ins C dx fs)∧fs.lookup (Str.ofString "own_text")=some (tx l)∧fs.lookup (Str.ofString "own_kinds")=some (tx m)∧fs.lookup (Str.ofString "text")=none∧fs.lookup (Str.ofString "place_of")=none∧fs.lookup (Str.ofString "lacking")=none∧fs.lookup (Str.ofString "laid_out")=none∧fs.lookup (Str.ofString "kinds")=none
theorem BandT.same {a:Ad}{H H':Hp}{p:Addr}{l m:List Nat}(h:BandT a H p l m)(s:Same H H'):BandT a H' p l m:=let ⟨C,dx,fs,h1,h2,h3⟩:=h;⟨C,dx,fs,h1,s _ _ h2,h3⟩
theorem BandT.text {a:Ad}{H:Hp}{p:Addr}{l m:List Nat}(h:BandT a H p l m):TextAt a H p l:=let ⟨C,dx,fs,h1,h2,h3,_,h5,_⟩:=h;⟨C,dx,fs,h1,h2,h3,h5⟩
def BandAt (a:Ad)(H:Hp)(p:Addr)(l m:List Nat):Prop:=RingAt a.c_LF H p l m∨∃la da ds,StripAt a.c_LG H p la da l m ds
theorem BandAt.same {a:Ad}{H H':Hp}{p:Addr}{l m:List Nat}(h:BandAt a H p l m)(s:Same H H'):BandAt a H' p l m:=h.imp (fun h=>h.same s) fun ⟨la,da,ds,h⟩=>⟨la,da,ds,h.same s⟩
theorem BandAt.t {a:Ad}{H:Hp}{p:Addr}{l m:List Nat}(h:BandAt a H p l m):BandT a H p l m:=by
 rcases h with⟨dx,h⟩|⟨la,da,ds,h⟩
 ·exact⟨_,dx,_,.inl rfl,h,Zit,Zhh,ZcK (by decide +kernel) (by decide +kernel),ZcK (by decide +kernel) (by decide +kernel),ZcK (by decide +kernel) (by decide +kernel),ZcK (by decide +kernel) (by decide +kernel),ZcK (by decide +kernel) (by decide +kernel)⟩
 ·obtain⟨dx,f⟩:=h.fld
  exact⟨_,dx,_,.inr rfl,f,Za3,Zck,sN (by decide +kernel),sN (by decide +kernel),sN (by decide +kernel),sN (by decide +kernel),sN (by decide +kernel)⟩
theorem ZcN {a:Ad}{H:Hp}{p C dx:Addr}{fs:List (Str×V)}{x:Str}{R1 R2:Prop}(hC:C=a.c_LF∨C=a.c_LG)(hp:H p=some (.ins C dx fs))(hx:fs.lookup x=none)(h1:R1)(h2:R2):
  (∃(a_1 dx:Addr) (fs:List (Str×V)),V.ref p=V.ref a_1∧H a_1=some (HO.ins a.c_LF dx fs)∧List.lookup x fs=none∧R1)∨∃(a_1 dx:Addr) (fs:List (Str×V)),V.ref p=V.ref a_1∧H a_1=some (HO.ins a.c_LG dx fs)∧List.lookup x fs=none∧R2:=by
 rcases hC with rfl | rfl
 ·exact .inl ⟨p,dx,fs,rfl,hp,hx,h1⟩
 ·exact .inr ⟨p,dx,fs,rfl,hp,hx,h2⟩
noncomputable def Zm2:Expr→Option (Arguments×Expr×Scope)
 | .Call _ [_,_,_,.Lambda p b s _] _ _=>some (p,b,s)
 | .UnaryOp _ (.Call _ [_,_,_,.Lambda p b s _] _ _) _=>some (p,b,s)
 | _=>none
noncomputable def Zpm:Stmt→Option (Arguments×Expr×Scope)
 | .Return (some e) _=>Zm2 e
 | .If e _ _ _=>Zm2 e
 | _=>none
noncomputable def lamL:Arguments×Expr×Scope:=(Zpm ((Zbi Zi3).getD 6 (.Pass ⟨0,0,0,0⟩))).get rfl
theorem Zeb:LamScope ["_law_band","_law_row","_law_words"] ["_law_band","_law_row"] "_law_words" lamL.2.2:=⟨rfl,rfl,rfl,by decide +kernel,by decide +kernel,by decide +kernel,by decide +kernel,by decide +kernel,rfl⟩
theorem Zid {q:Str}{params:Arguments}{body:Expr}{scope:Scope}{fr:Str}{H H':Hp}{g c:Addr}{v:V}{S:List Addr}(l:LamAt q params body scope fr H g c v)(hS:∀b∈S,(∃xs,H b=some (.lst xs))∨∃C dx fs,H b=some (.ins C dx fs))(s:Chg S H H'):LamAt q params body scope fr H' g c v:=by
 obtain⟨o,u,pm,ctv,c',e1,e2,e3,e4,e5⟩:=l
 have n:∀ {b:Addr} {o:HO},H b=some o→(∀xs,o≠.lst xs)→(∀C dx fs,o≠.ins C dx fs)→b∉S:=fun {b o} e n1 n2 hb=>by
  rcases hS b hb with⟨xs,z⟩|⟨C,dx,fs,z⟩
  ·rw[e]at z;exact n1 _ (Option.some.inj z)
  ·rw[e]at z;exact n2 _ _ _ (Option.some.inj z)
 exact⟨o,u,pm,ctv,c',s _ _ e1 (n e1 (fun _ z=>nomatch z) (fun _ _ _ z=>nomatch z)) rfl,s _ _ e2 (n e2 (fun _ z=>nomatch z) (fun _ _ _ z=>nomatch z)) rfl,s _ _ e3 (n e3 (fun _ z=>nomatch z) (fun _ _ _ z=>nomatch z)) rfl,e4,e5⟩
theorem ZeH {H:Hp}{b c:Addr}{o:HO}(hc:∃o u,H c=some (.frz o u))(h:H b=some o)(n:∀o' u,o≠.frz o' u):unf H c b=some o:=by
 obtain⟨o',u,hc⟩:=hc
 rw[Zbd (fun z=>by rw[z,hc]at h;exact n _ _ (Option.some.inj h).symm)]
 exact h
theorem Znj {w m:List Nat}(hm:∀x∈w,x∈m)(hw:w.length≤60):isw w m 60=true:=by
 unfold isw
 rw[YAR,decide_eq_true_iff,YBE]
 exact⟨by omega,fun x hx=>by simpa using hm x hx⟩
theorem words_of {P:List Nat→Prop}:∀ {ys:List V},(∀y∈ys,∃w,y=tx w∧P w)→∃ws:List (List Nat),ys=ws.map tx∧∀w∈ws,P w
 | [],_=>⟨[],rfl,fun _ h=>by cases h⟩
 | y::ys,h=>by
  obtain⟨w,rfl,hw⟩:=h y YAa
  obtain⟨ws,rfl,hws⟩:=words_of (ys:=ys) fun z hz=>h z (YAW _ hz)
  refine⟨w::ws,rfl,fun x hx=>?_⟩
  rcases YAK.mp hx with rfl | hx
  ·exact hw
  ·exact hws x hx
def LW (H0 H:Hp)(g cc pw:Addr)(ws:List (List Nat)):Prop:=LamAt lqL lamL.1 lamL.2.1 lamL.2.2 "_law_words" H g cc (.ref pw)∧H pw=some (.lst (ws.map tx))∧SameL H0 H
theorem LW.same {H0 H H':Hp}{g cc pw:Addr}{ws:List (List Nat)}(h:LW H0 H g cc pw ws)(s:Same H H'):LW H0 H' g cc pw ws:=⟨h.1.same s.l,s _ _ h.2.1,h.2.2.trans s.l⟩
theorem LW.chg {C:Addr}{H0 H H':Hp}{p la da:Addr}{l m:List Nat}{ds:List (Bool×Nat)}{g cc pw:Addr}{ws:List (List Nat)}(h:LW H0 H g cc pw ws)(r:StripAt C H p la da l m ds)(n:pw≠da)(np:H0 p=none)(nd:H0 da=none)(s:Chg [p,da] H H'):LW H0 H' g cc pw ws:=by
 obtain⟨dx,f⟩:=r.fld
 obtain⟨ts,d,_⟩:=r.deed
 refine⟨Zid h.1 (fun b hb=>?_) s,s _ _ h.2.1 (fun hb=>?_) rfl,fun b o e t=>s b o (h.2.2 b o e t) (fun hb=>?_) t⟩
 ·rcases YAK.mp hb with rfl | hb
  ·exact .inr ⟨_,_,_,f⟩
  ·rw[YAS.mp hb];exact .inl ⟨_,d⟩
 ·rcases YAK.mp hb with z | hb
  ·have:=h.2.1;rw[z,f]at this;cases this
  ·exact n (YAS.mp hb)
 ·rcases YAK.mp hb with rfl | hb
  ·rw[np]at e;cases e
  ·rw[YAS.mp hb,nd]at e;cases e
theorem ZhA {C:Addr}{H:Hp}{p la da cc:Addr}{l m:List Nat}{ds:List (Bool×Nat)}(r:StripAt C H p la da l m ds)(hc:∃o u,H cc=some (.frz o u)):StripAt C (unf H cc) p la da l m ds:=by
 obtain⟨⟨dx,f⟩,k,⟨ts,d1,d2⟩,rr,o,n⟩:=r
 refine⟨⟨dx,ZeH hc f (fun _ _ z=>nomatch z)⟩,ZeH hc k (fun _ _ z=>nomatch z),⟨ts,ZeH hc d1 (fun _ _ z=>nomatch z),?_⟩,rr,o,n⟩
 refine⟨d2.1,fun i y hy=>?_⟩
 obtain⟨d,hd,t,e,ht⟩:=d2.2 i y hy
 exact⟨d,hd,t,e,ZeH hc ht (fun _ _ z=>nomatch z)⟩
theorem Zc3 {H H3:Hp}{c:Addr}{o:HO}(hc:H c=some o)(s:Same (unf H c) H3):Same H (upd H3 c o):=fun b u e=>by
 by_cases z:b=c
 ·subst z;rw[hc]at e;cases e;exact Zad
 ·rw[Zae z];exact s _ _ (by rw[Zbd z];exact e)
theorem ZeC {α:Type}{xs:List α}{x:α}(h:xs.getLast?=some x):atI xs (-1)=some x:=by
 have hl:0<xs.length:=by cases xs with | nil=>cases h | cons a r=>simp
 rw[List.getLast?_eq_getElem?]at h
 unfold atI ixN
 rw[YAJ (by omega),YAO (by omega),YBy,←h]
 congr 1
 omega
theorem ZlF (ps:List Nat):atI ((ps.map fun (i:Nat)=>V.int i)++[.non]) 0=some (plV ps.head?):=by
 cases ps with
 | nil=>rfl
 | cons a r=>
  unfold atI ixN
  rw[YAO (by omega),YAO (by simp;omega)]
  rfl
theorem ZlE (ps:List Nat):atI ([.non]++(ps.map fun (i:Nat)=>V.int i)) (-1)=some (plV ps.getLast?):=by
 apply ZeC
 cases h:ps.getLast? with
 | none=>rw[List.getLast?_eq_none_iff.mp h];rfl
 | some x=>
  rw[List.getLast?_append,List.getLast?_map,h]
  rfl
theorem Zgl (o:Option Nat):plV o=.non∨(∃l,plV o=tx l)∨∃i,plV o=.int i:=by
 cases o with
 | none=>exact .inl rfl
 | some i=>exact .inr (.inr ⟨_,rfl⟩)
def Zou (K:PySem.W.Frag)(a:Ad):Sp:=fun vs H Q _=>∃l m,vs=[tx l,tx m]∧l.length≤1000∧∀H2,Same H H2→Q (.bl (l.all fun c=>m.contains c)) H2
def Zos (K:PySem.W.Frag)(a:Ad):Sp:=fun vs H Q _=>∃v,vs=[v]∧((∃l,v=tx l∧l.length≤1000∧∀H2,Same H H2→Q (.bl (isk l)) H2)∨(Oth K H v∧Q (.bl false) H))
def Zor (K:PySem.W.Frag)(a:Ad):Sp:=fun vs H Q _=>∃v m most,vs=[v,tx m,.int most]∧((∃l,v=tx l∧l.length≤1000∧∀H2,Same H H2→Q (.bl (isw l m most)) H2)∨(Oth K H v∧Q (.bl false) H))
def Zob (K:PySem.W.Frag)(a:Ad):Sp:=fun vs H Q E=>∃v,vs=[v]∧((∃l,v=tx l∧l.length≤1000∧isk l=true∧∀H2,Same H H2→Q .non H2)∨(BadK K H v∧XNk a E H))
def Zn6 (K:PySem.W.Frag)(a:Ad):Sp:=fun vs H Q E=>∃v m most,vs=[v,tx m,.int most]∧((∃l,v=tx l∧l.length≤1000∧isw l m most=true∧∀H2,Same H H2→Q .non H2)∨(BadW K H v m most∧XNw a E H v))
def ZnZ (K:PySem.W.Frag)(a:Ad):Sp:=fun vs H Q _=>∃(l x:List Nat),vs=[tx l,tx x]∧l.length≤1000∧x.length≤1000∧Q (.bl (Zif l x)) H
def Zn7 (K:PySem.W.Frag)(a:Ad):Sp:=fun vs H Q _=>∃v m,vs=[v,tx m]∧((∃l,v=tx l∧l.length≤1000∧∀H2,Same H H2→Q (.bl (isl l m)) H2)∨(Oth K H v∧Q (.bl false) H))
def Zoj (K:PySem.W.Frag)(a:Ad):Sp:=fun vs H Q E=>∃v m,vs=[v,tx m]∧((∃l,v=tx l∧l.length≤1000∧isl l m=true∧∀H2,Same H H2→Q .non H2)∨(BadL K H v m∧XNw a E H v))
def Zot (K:PySem.W.Frag)(a:Ad):Sp:=fun vs H Q _=>∃(p:Addr) (ws:List (List Nat)),vs=[.ref p]∧H p=some (.lst (ws.map tx))∧(∀w∈ws,w.length≤1000)∧TblOk H a.t_K1 lpos lq∧∀(ws':List (List Nat)) (r:Addr) (H2:Hp),ws'.Perm ws→ws'.Pairwise (fun a b=>¬BefW b a)→SameL H H2→TblOk H2 a.t_K1 lpos lq→H r=none→H2 r=some (.lst (ws'.map tx))→Q (.ref r) H2
def Zn0 (K:PySem.W.Frag)(a:Ad):Sp:=fun vs H Q _=>∃(s L:List Nat),vs=[tx s,tx L]∧L.length≤41∧Ext s L∧TblOk H a.t_K1 lpos lq∧∀(F:List (List Nat)) (r:Addr) (H2:Hp),F.Pairwise BefW→(∀w,w∈F↔Frs s L w)→SameL H H2→TblOk H2 a.t_K1 lpos lq→Nw H r→H2 r=some (.lst (F.map tx))→Q (.ref r) H2
def Zn5 (K:PySem.W.Frag)(a:Ad):Sp:=fun vs H Q _=>∃(s L rs m:List Nat),vs=[tx s,tx L,tx rs]∧L.length≤41∧Ext s L∧(∀x∈L,x∈m)∧m.Pairwise (· < ·)∧TblOk H a.t_K1 lpos lq∧∀(ys:List V) (r:Addr) (H2:Hp),SameL H H2→TblOk H2 a.t_K1 lpos lq→Nw H r→H2 r=some (.lst ys)→RowsA H2 ys (ZdM rs s L m)→Q (.ref r) H2
def Zn2 (K:PySem.W.Frag)(a:Ad):Sp:=fun vs H Q _=>∃(s L rs m:List Nat),vs=[tx s,tx L,tx m,tx rs]∧L.length≤41∧Ext s L∧(∀x∈L,x∈m)∧m.Pairwise (· < ·)∧m.length≤4∧TblOk H a.t_K1 lpos lq∧∀(ys:List V) (r:Addr) (H2:Hp),SameL H H2→TblOk H2 a.t_K1 lpos lq→Nw H r→H2 r=some (.lst ys)→RowsA H2 ys (Zdj rs s L m)→Q (.ref r) H2
def Zoa (K:PySem.W.Frag)(a:Ad):Sp:=fun vs H Q _=>∃(p dx C:Addr) (l m:List Nat),vs=[.ref p,tx l,tx m]∧(C=a.c_LF∨C=a.c_LG)∧H p=some (.ins C dx [])∧∀H2,H2 p=some (.ins C dx (putF "own_kinds" (tx m) (putF "own_text" (tx l) [])))→(∀b o,H b=some o→b≠p→H2 b=some o)→Q .non H2
def Zoe (K:PySem.W.Frag)(a:Ad):Sp:=fun vs H Q E=>∃(p dx:Addr) (u:V),vs=[.ref p,u]∧H p=some (.ins a.c_LG dx [])∧((∃m,u=tx m∧KOk m∧∀la da H2,StripAt a.c_LG H2 p la da [] m []→H la=none→H da=none→(∀b o,H b=some o→b≠p→H2 b=some o)→Q .non H2)∨(BadK K H u∧XNk a E H))
def ZkA (K:PySem.W.Frag)(a:Ad):Sp:=fun vs H Q _=>∃(p:Addr) (l:List Nat),vs=[.ref p]∧TextAt a H p l∧Q (tx l) H
def Zl5 (K:PySem.W.Frag)(a:Ad):Sp:=fun vs H Q _=>∃(p:Addr) (l m:List Nat),vs=[.ref p]∧BandT a H p l m∧Q (tx m) H
def Zom (K:PySem.W.Frag)(a:Ad):Sp:=fun vs H Q _=>∃(p la da c g:Addr) (l l2 m:List Nat) (old new:List (List Nat)) (ys zs:List V) (rc rg:List (List Nat×List V)),vs=[.ref p,tx l2,.ref c,.ref g]∧ZcX a.c_LG H p la da l m∧H la=some (.lst (old.map tx))∧H c=some (.lst ys)∧RowsA H ys rc∧H g=some (.lst zs)∧RowsA H zs rg∧old.Pairwise BefW∧new.Pairwise BefW∧(rc.map (·.1)).Nodup∧(∀w,w∈rc.map (·.1)↔w∈new∧w∉old)∧(∀w,w∈rg.map (·.1)↔w∈old∧w∉new)∧old.length≤9000∧rc.length≤9000∧rg.length≤9000∧(∀w∈old,w.length≤1000)∧(∀w∈new,w.length≤1000)∧TblOk H a.t_K1 lpos lq∧∀(t la2:Addr) (H2:Hp),Chg [p] H H2→ZcX a.c_LG H2 p la2 da l2 m→Nw H la2→H2 la2=some (.lst (new.map tx))→H2 t=some (.tup [.ref c,.ref g])→TblOk H2 a.t_K1 lpos lq→Q (.ref t) H2
def Zof (K:PySem.W.Frag)(a:Ad):Sp:=fun vs H Q _=>∃(p la da:Addr) (s L m:List Nat),vs=[.ref p,tx L]∧ZcX a.c_LG H p la da s m∧H la=some (.lst ((ZaN s m).map tx))∧L.length≤40∧Ext s L∧(∀x∈L,x∈m)∧KindsOk m∧TblOk H a.t_K1 lpos lq∧∀(t c g la2:Addr) (H2:Hp),Chg [p] H H2→ZcX a.c_LG H2 p la2 da L m→H2 la2=some (.lst ((ZaN L m).map tx))→AnsS H H2 t c g la2 (Zdj [102,105,114,115,116] s L m) (ZdM [115,116,97,110,100,115] s L m)→TblOk H2 a.t_K1 lpos lq→Q (.ref t) H2
def Zol (K:PySem.W.Frag)(a:Ad):Sp:=fun vs H Q _=>∃(p la da:Addr) (s L m:List Nat),vs=[.ref p,tx s]∧ZcX a.c_LG H p la da L m∧H la=some (.lst ((ZaN L m).map tx))∧L.length≤40∧Ext s L∧(∀x∈L,x∈m)∧KindsOk m∧TblOk H a.t_K1 lpos lq∧∀(t c g la2:Addr) (H2:Hp),Chg [p] H H2→ZcX a.c_LG H2 p la2 da s m→H2 la2=some (.lst ((ZaN s m).map tx))→AnsS H H2 t c g la2 (ZdM [115,116,111,111,100] s L m) (Zdj [108,97,115,116] s L m)→TblOk H2 a.t_K1 lpos lq→Q (.ref t) H2
def Zn9 (K:PySem.W.Frag)(a:Ad):Sp:=fun vs H Q E=>∃(p la da:Addr) (l m:List Nat) (ds:List (Bool×Nat)) (v:V),vs=[.ref p,v]∧StripAt a.c_LG H p la da l m ds∧ds.length≤9000∧TblOk H a.t_K1 lpos lq∧((∃c0,v=tx [c0]∧c0∈m∧l.length<40∧∀(t c g la2:Addr) (H2:Hp),Chg [p,da] H H2→StripAt a.c_LG H2 p la2 da (l++[c0]) m (ds++[(true,c0)])→AnsS H H2 t c g la2 (Zdj [102,105,114,115,116] l (l++[c0]) m) (ZdM [115,116,97,110,100,115] l (l++[c0]) m)→TblOk H2 a.t_K1 lpos lq→Q (.ref t) H2)∨(BadL K H v m∧XNw a E H v)∨(∃c0,v=tx [c0]∧c0∈m∧l.length=40∧XN0 a.c_LS E H))
def Zog (K:PySem.W.Frag)(a:Ad):Sp:=fun vs H Q E=>∃(p la da:Addr) (l m:List Nat) (ds:List (Bool×Nat)),vs=[.ref p]∧StripAt a.c_LG H p la da l m ds∧ds.length≤9000∧TblOk H a.t_K1 lpos lq∧((∃c0 l0,l=c0::l0∧∀(t c g la2:Addr) (H2:Hp),Chg [p,da] H H2→StripAt a.c_LG H2 p la2 da l0 m (ds++[(false,c0)])→AnsS H H2 t c g la2 (ZdM [115,116,111,111,100] l0 (c0::l0) m) (Zdj [108,97,115,116] l0 (c0::l0) m)→TblOk H2 a.t_K1 lpos lq→Q (.ref t) H2)∨(l=[]∧XN0 a.c_LR E H))
def Zoh (K:PySem.W.Frag)(a:Ad):Sp:=fun vs H Q E=>∃(p la da:Addr) (l m:List Nat) (ds:List (Bool×Nat)),vs=[.ref p]∧StripAt a.c_LG H p la da l m ds∧ds.length≤9000∧TblOk H a.t_K1 lpos lq∧((∃ds0 c0 l0,ds=ds0++[(true,c0)]∧l=l0++[c0]∧∀(t c g la2:Addr) (H2:Hp),Chg [p,da] H H2→StripAt a.c_LG H2 p la2 da l0 m ds0→AnsS H H2 t c g la2 (ZdM [115,116,111,111,100] l0 (l0++[c0]) m) (Zdj [108,97,115,116] l0 (l0++[c0]) m)→TblOk H2 a.t_K1 lpos lq→Q (.ref t) H2)∨(∃ds0 c0,ds=ds0++[(false,c0)]∧∀(t c g la2:Addr) (H2:Hp),Chg [p,da] H H2→StripAt a.c_LG H2 p la2 da (c0::l) m ds0→AnsS H H2 t c g la2 (Zdj [102,105,114,115,116] l (c0::l) m) (ZdM [115,116,97,110,100,115] l (c0::l) m)→TblOk H2 a.t_K1 lpos lq→Q (.ref t) H2)∨(ds=[]∧XN0 a.c_K7 E H))
def ZnY (K:PySem.W.Frag)(a:Ad):Sp:=fun vs H Q _=>∃(b:Addr) (ns:List Int) (k:Int),vs=[.ref b,.int k]∧SqL K H b (ns.map V.int)∧0≤k∧k≤1000∧∀r:Int,Q (.int r) H
def ZnU (K:PySem.W.Frag)(a:Ad):Sp:=fun vs H Q _=>∃c k,vs=[.int c,.int k]∧∀r:Int,0≤r→Q (.int r) H
def Zn4 (K:PySem.W.Frag)(a:Ad):Sp:=fun vs H Q _=>∃c,vs=[.int c]∧∀m H2,isk m=true→1≤m.length→m.length≤4→Same H H2→Q (tx m) H2
def Zoq (K:PySem.W.Frag)(a:Ad):Sp:=fun vs H Q _=>∃(c:Int) (m:List Nat) (n:Int) (d:Bool),vs=[.int c,tx m,.int n,.bl d]∧1≤m.length∧m.length≤4∧0≤n∧n≤100∧∀(l:List Nat) H2,l.length=n.toNat→(∀x∈l,x∈m)→Same H H2→Q (tx l) H2
def ZnW (K:PySem.W.Frag)(a:Ad):Sp:=fun vs H Q _=>∃(b:Addr) (ns:List Int) (k:Int) (m:List Nat),vs=[.ref b,.int k,tx m]∧SqL K H b (ns.map V.int)∧0≤k∧k≤900∧1≤m.length∧m.length≤4∧∀(l:List Nat) H2,l.length≤40→(∀x∈l,x∈m)→Same H H2→Q (tx l) H2
def ZnR (K:PySem.W.Frag)(a:Ad):Sp:=fun vs H Q _=>∃(m:List Nat) (most n:Int),vs=[tx m,.int most,.int n]∧KOk m∧1≤most∧most≤100∧∀v H2,Same H H2→BadW K H2 v m most→Q v H2
def Zn1 (K:PySem.W.Frag)(a:Ad):Sp:=fun vs H Q _=>∃(l w:List Nat),vs=[tx l,tx w]∧l.length≤900∧w.length≤900∧∀p H2,Same H H2→H2 p=some (.lst ((placesOf l w).map fun i=>.int (i:Nat)))→Q (.ref p) H2
def ZnV (K:PySem.W.Frag)(a:Ad):Sp:=fun vs H Q _=>∃(c:Int) (l m:List Nat),vs=[.int c,tx l,tx m]∧l.length≤40∧(∀x∈l,x∈m)∧1≤m.length∧m.length≤4∧∀(w:List Nat) H2,w.length≤60→(∀x∈w,x∈m)→Same H H2→Q (tx w) H2
def Zn3 (K:PySem.W.Frag)(a:Ad):Sp:=fun vs H Q _=>∃x,vs=[x,x]∧(x=.non∨(∃l,x=tx l)∨∃i,x=.int i)∧∀H2,Same H H2→Q (.bl true) H2
def ZnX (K:PySem.W.Frag)(a:Ad):Sp:=fun vs H Q _=>∃(u y:V),vs=[u,y]∧((∃i,u=.int i∧y=.int i)∨∃(p q:Addr) (xs:List V),u=.ref p∧y=.ref q∧H p=some (.lst xs)∧H q=some (.lst xs)∧xs.length≤100∧∀x∈xs,(x=.non∨(∃l,x=tx l)∨∃i,x=.int i))∧∀H2,Same H H2→Q (.bl true) H2
def Zoi (K:PySem.W.Frag)(a:Ad):Sp:=fun vs H Q E=>∃(p dx:Addr) (l m:List Nat),vs=[.ref p,tx l,tx m]∧H p=some (.ins a.c_LF dx [])∧StripOk l m∧∀H2,H2 p=some (.ins a.c_LF dx (putF "own_kinds" (tx m) (putF "own_text" (tx l) [])))→(∀b o,H b=some o→b≠p→H2 b=some o)→Q .non H2
def Zon (K:PySem.W.Frag)(a:Ad):Sp:=fun vs H Q _=>∃(p:Addr) (l:List Nat) (n:Nat),vs=[.ref p,.int n]∧TextAt a H p l∧Q (tx l) H
def ZkB (K:PySem.W.Frag)(a:Ad):Sp:=fun vs H Q E=>∃(p:Addr) (l m:List Nat) (v:V),vs=[.ref p,v]∧BandT a H p l m∧l.length≤40∧((∃w,v=tx w∧w.length≤1000∧isw w m 60=true∧∀H2,Same H H2→Q (plV (placesOf l w).head?) H2)∨(BadW K H v m 60∧XNw a E H v))
def Zok (K:PySem.W.Frag)(a:Ad):Sp:=fun vs H Q E=>∃(p:Addr) (l m:List Nat) (v:V),vs=[.ref p,v]∧BandT a H p l m∧l.length≤40∧((∃w,v=tx w∧w.length≤1000∧isw w m 60=true∧∀H2,Same H H2→Q (plV (placesOf l w).head?) H2)∨(BadW K H v m 60∧XNw a E H v))
def Zoc (K:PySem.W.Frag)(a:Ad):Sp:=fun vs H Q E=>∃(p:Addr) (l m:List Nat) (v:V),vs=[.ref p,v]∧BandT a H p l m∧l.length≤40∧((∃w,v=tx w∧w.length≤1000∧isw w m 60=true∧∀H2,Same H H2→Q (plV (placesOf l w).getLast?) H2)∨(BadW K H v m 60∧XNw a E H v))
def Zn8 (K:PySem.W.Frag)(a:Ad):Sp:=fun vs H Q E=>∃(p:Addr) (l m:List Nat) (v:V),vs=[.ref p,v]∧BandT a H p l m∧l.length≤40∧((∃w,v=tx w∧w.length≤1000∧isw w m 60=true∧∀H2,Same H H2→Q (.int ((placesOf l w).length:Nat)) H2)∨(BadW K H v m 60∧XNw a E H v))
def Zod (K:PySem.W.Frag)(a:Ad):Sp:=fun vs H Q E=>∃(p:Addr) (l m:List Nat) (v:V),vs=[.ref p,v]∧BandT a H p l m∧l.length≤40∧((∃w,v=tx w∧w.length≤1000∧isw w m 60=true∧∀r H2,Same H H2→H2 r=some (.lst ((placesOf l w).map fun i=>.int (i:Nat)))→Q (.ref r) H2)∨(BadW K H v m 60∧XNw a E H v))
def Zl4 (K:PySem.W.Frag)(a:Ad):Sp:=fun vs H Q E=>∃(p:Addr) (l m:List Nat) (v:V),vs=[.ref p,v]∧BandT a H p l m∧l.length≤40∧BadW K H v m 60∧XNw a E H v
def Zop (K:PySem.W.Frag)(a:Ad):Sp:=fun vs H Q _=>∃(l w:List Nat),vs=[tx l,tx w]∧l.length≤40∧w.length≤60∧∀r H2,Same H H2→H r=none→H2 r=some (.lst ((placesOf l w).map fun i=>.int (i:Nat)))→Q (.ref r) H2
def Zoo (K:PySem.W.Frag)(a:Ad):Sp:=fun vs H Q _=>∃(c:Int) (p:Addr) (l m:List Nat) (v:V),vs=[.int c,.ref p,v]∧BandT a H p l m∧l.length≤40∧BadW K H v m 60∧∀e H2,Same H H2→XAny H2 e a.c_K8 (fs1 "word" [v])→Q (.ref e) H2
def ZnS (K:PySem.W.Frag)(a:Ad):Sp:=fun vs H Q _=>∃(p pw:Addr) (l m:List Nat) (ws:List (List Nat)),vs=[.ref p,tx l,.ref pw]∧BandAt a H p l m∧StripOk l m∧H pw=some (.lst (ws.map tx))∧ws.length≤100∧(∀w∈ws,w.length≤60∧∀x∈w,x∈m)∧∀H2,Same H H2→Q (.bl true) H2
def ZnT (K:PySem.W.Frag)(a:Ad):Sp:=fun vs H Q _=>∃(l m:List Nat) (c:Int) (g cc pw:Addr) (ws:List (List Nat)),vs=[tx l,tx m,.int c,.ref g]∧StripOk l m∧TblOk H a.t_K1 lpos lq∧LamAt lqL lamL.1 lamL.2.1 lamL.2.2 "_law_words" H g cc (.ref pw)∧H pw=some (.lst (ws.map tx))∧ws.length≤100∧(∀w∈ws,w.length≤60∧∀x∈w,x∈m)∧∀H2,SameL H H2→Q (.bl true) H2
def spLaw (K:PySem.W.Frag)(tb:Str→Addr×Addr):Sp:=fun vs H Q _=>∃(b:Addr) (ns:List Int),vs=[.ref b]∧SqL K H b (ns.map V.int)∧ns.length≤63∧TblOk H (tb "in_order").2 lpos lq∧TblOk H (tb "law").2 Zpl lqL∧∀H2,Q (.bl true) H2
section
variable {P:Program}{w:World}{K:PySem.W.Frag}{mg:Str→Option Value}{base:Heap}{a:Ad}{tb:Str→Addr×Addr}
local macro_rules | `(tactic| walk_at "r0") => `(tactic| simp only [tSeq, tAsg, tOp, tUn, tVar, tC, ZcZ, gNil, Znv, tRet, tIfS, ZlP, tB, tNot, tAnd, tOr, Zl3, tIf, ZlV, tNil, Zl0, ZoX, ZoU, ZoW, ZoV, Zml, Zky, tCB, Zmc, ZjP, tBM, tBM0, tSl, ZlQ, tNoPart, tNext, L2.start, cxK, bxK, cxPr, cxWo, suxK, ZnQ, ZnP, ZjT, tTry, ZjU, Zmd, ZjX, sIfx, hAs, hNone, unE, ZjQ, ZlW, Zgc, ZoY, Zmk, Znr, Znq, Zll, Znp, gTup, pick, Option.bind_some, Option.bind_none, Option.join_some, Option.join_none, List.map_cons, List.map_nil, List.length_cons, List.length_nil, Nat.zero_add, Nat.reduceAdd, Nat.reduceSub, List.replicate_succ, List.replicate_zero, List.cons_append, List.nil_append, List.append_nil, List.getElem?_cons_zero, List.getElem?_cons_succ, List.set_cons_zero, List.set_cons_succ, q_I, q_I0, q_U, q_T, q_b, q_var, q_var', ZkP, ZlT, Zku, tFld, sFld, sNo, tDNewK, Zme, ZjS, ZlZ, tOr2, Zhz, Zgd, Zno])
local macro_rules | `(tactic| walk_at "r1") => do
 let some t ←Lean.Macro.expandMacro? (←`(tactic| walk_at "r0")) | Lean.Macro.throwUnsupported
 match (⟨t⟩:Lean.TSyntax `tactic) with
 | `(tactic| simp only[$l,*])=>let d:=⟨l.elemsAndSeps⟩;`(tactic| dsimp only[$d,*])
 | _=>Lean.Macro.throwUnsupported
local macro_rules | `(tactic| walk_at "rd") => `(tactic| first | (walk_at "r1"; try walk_at "r0") | walk_at "r0")
local macro_rules | `(tactic| walk_at "sc") => `(tactic| exact ⟨rfl, rfl, rfl, by decide +kernel, rfl, by decide +kernel, by decide +kernel⟩)
local macro_rules | `(tactic| walk_at "rd?") => `(tactic| (try walk_at "rd"))
theorem ZoQ:FnScope ["text","letters"] ["text","letters"] (Zah s_K0):=by walk_at "sc"
theorem ZmQ (T:TL K mg base a tb):FnOk P w K mg base CX0 1 a.f_K0 a.d_K0 ["text","letters"] (Zou K a):=by
 refine T.f_K0.ok ZoQ (fun vs H Q E h=>?_) (fun cdv A outer s H vs Q E hr h=>?_)
 ·obtain⟨_,_,rfl,_⟩:=h;rfl
 ·have hu64:=hr.units
  have hu1:=ZaM hr
  obtain⟨l,m,rfl,hl,q⟩:=h
  refine⟨_,(Zaf (Zaq (Zai (ZiH rfl) rfl T.z_all ZnE (Zaa (ZbK (N:=["sign","letters"]) (ix:=[none,some 1]) rfl (Zbc rfl) rfl (Zdm (pv 0)) (fun _ _ _ _=>(ZaF (i:=0) (show (["sign","letters"]:List Str).Nodup from by decide +kernel) rfl (Or.inl rfl) (Or.inr rfl))) (fun _ _ _ _=>Zcn) (fun _ _ _ _=>(ZaX ZgZ (pv 0) (pv 1) rfl))) Zab)))),?_⟩
  walk_at "rd"
  refine⟨l,rfl,CompRun.text (fun _=>true) (fun i=>.bl (decide (l.getD i 0∈m))) hl ?_ ?_ ?_⟩
  ·intro i H1 Q1 hi s1 q1;exact q1 H1 (Same.refl _)
  ·intro i H1 Q1 hi _ s1 q1
   walk_at "rd"
   exact⟨_,m,rfl,rfl,q1 H1 (Same.refl _)⟩
  ·intro p H1 s1 n1 l1
   refine⟨p,(List.range l.length).map (fun i=>decide (l.getD i 0∈m)),rfl,?_,?_⟩
   ·rw[l1,filter_all,YBZ];rfl
   ·rw[all_range];exact q H1 s1
theorem ZdL:FnScope ["self","word"] ["self","word"] (Zah ZbI):=by walk_at "sc"
theorem Zb9 (T:TL K mg base a tb):FnOk P w K mg base CX0 1 a.g_NoWord_init a.e_NoWord_init ["self","word"] (Zge K a.c_K8 1 (fs1 "word")):=by
 refine T.fi_K8.ok ZdL (fun vs H Q E h=>?_) (fun cdv A outer s H vs Q E hr h=>?_)
 ·obtain⟨e,r,rfl,hl,_⟩:=h;simp[hl]
 ·have hu64:=hr.units
  have hu1:=ZaM hr
  obtain⟨e,r,rfl,hl,he,q⟩:=h
  obtain⟨x,rfl⟩:∃x,r=[x]:=by match r,hl with | [x],_=>exact⟨x,rfl⟩
  refine⟨_,(Zac (ZaW (Zjb rfl T.m_KV T.r_KV (Zaa (pv 0) (Zaa (ZaO (l:=[116,104,105,115,32,105,115,32,110,111,32,119,111,114,100,32,111,102,32,116,104,101,115,101,32,107,105,110,100,115,44,32,111,114,32,104,97,115,32,116,111,111,32,109,97,110,121,32,108,101,116,116,101,114,115]) (by decide +kernel)) Zab))))
   (Zaf (ZkQ (pv 0) (pv 1) rfl))),?_⟩
  walk_at "rd"
  refine⟨e,a.c_K8,none,_,rfl,he,T.x_K8,(by show 1≤1000;decide),e,a.c_K8,[],rfl,.bare he,T.x_K8.c,T.n_NoWord_word,(by show 0<1000;decide),fun H1 x1 k1 _=>?_⟩
  exact q H1 x1 fun b o hb hne=>k1 b o hb hne fun d hd=>by rw[he]at hd;exact absurd hd ZnG
theorem Zl6:FnScope ["text","word","size"] ["text","word"] (Zah s_LE):=by walk_at "sc"
theorem Zmz (T:TL K mg base a tb):FnOk P w K mg base CX0 1 a.f_LE a.d_LE ["text","word"] (Zn1 K a):=by
 refine T.f_LE.ok Zl6 (fun vs H Q E h=>?_) (fun cdv A outer s H vs Q E hr h=>?_)
 ·obtain⟨_,_,rfl,_⟩:=h;rfl
 ·have hu64:=hr.units
  have hu1:=ZaM hr
  obtain⟨l,w_,rfl,hl,hw,q⟩:=h
  refine⟨_,(Zac (Zau (i:=2) Zl6.nd rfl (Or.inr rfl) (Zai (Zas (K:=K) rfl) rfl T.z_len ZaL (Zaa (pv 1) Zab)))
   (Zaf (Zaq (ZbK (N:=["start","size","text","word"]) (ix:=[none,some 2,some 0,some 1]) rfl (Zbc rfl) rfl (ZbB rfl T.z_range (Zaa (Zat Za6 (Zat Zgr (Zai (Zas (K:=K) rfl) rfl T.z_len ZaL (Zaa (pv 0) Zab)) (pv 2)) Zag) Zab)) (fun _ _ _ _=>(ZaF (i:=0) (show (["start","size","text","word"]:List Str).Nodup from by decide +kernel) rfl (Or.inl rfl) (Or.inr rfl))) (fun _ _ _ _=>(Zcm (Zaw (ZaH (K:=K) rfl hu64) (ZaC Zbz (pv 2) (ZaE (pv 0)) (ZaE (Zat Za6 (pv 0) (pv 1)))) (pv 3) (Zax _)))) (fun _ _ _ _=>(pv 0)))))),?_⟩
  have sz:l.length≤sizeLine:=by rw[sizeLine_eq];omega
  walk_at "rd"
  refine⟨_,_,rfl,Zbl (by omega),_,_,rfl,Zbl (by omega),_,rfl,by omega,by omega,?_⟩
  have e0:((l.length:Int)-(w_.length:Nat)+1).toNat=l.length+1-w_.length:=by omega
  rw[e0]
  refine CompRun.range (fun i=>decide ((l.drop i).take w_.length=w_)) (fun i=>.int ((i:Nat):Int)) (by omega) ?_ ?_ ?_
  ·intro i H1 Q1 hi s1 q1
   have e1:(0+(i:Int))=((i:Nat):Int):=by omega
   have e2:((i:Nat):Int)+(w_.length:Nat)=((i+w_.length:Nat):Int):=by omega
   walk_at "rd"
   refine⟨_,rfl,_,rfl,l,rfl,sz,.inl ⟨rfl,_,rfl,?_⟩⟩
   rw[YAJ YAC,ZcV,e1,e2,Zkl]
   have e3:i+w_.length-i=w_.length:=by omega
   rw[e3]
   exact q1 H1 (Same.refl _)
  ·intro i H1 Q1 hi _ s1 q1
   have e1:(0+(i:Int))=((i:Nat):Int):=by omega
   walk_at "rd"
   rw[e1]
   exact q1 H1 (Same.refl _)
  ·intro p H2 s2 n2 l2
   exact q p H2 s2 l2
theorem ZoP:FnScope ["words"] ["words"] (Zah s_K1):=by walk_at "sc"
theorem Zk3 (T:TL K mg base a tb):FnOk P w K mg base CX0 1 a.f_K1 a.d_K1 ["words"] (Zot K a):=by
 refine T.f_K1.okC T.cd_K1 ZoP (fun vs H Q E h=>?_) (fun A outer s H vs Q E hr h=>?_)
 ·obtain⟨_,_,rfl,_⟩:=h;rfl
 ·have hu64:=hr.units
  have hu1:=ZaM hr
  obtain⟨p,ws,rfl,hp,hw,tk,q⟩:=h
  refine⟨_,(Zaf (Zaq (Zjc (q:="in_order.<locals>.<lambda>") hr T.L_in_order rfl rfl T.z_sorted T.z_len (Zaa (pv 0) Zab) rfl rfl (by kernel_rfl) ⟨rfl,rfl,rfl,rfl,rfl,rfl⟩ (fun _ _ _ _ _=>.of_eq rfl)))),?_⟩
  have sz:∀k:Nat,k≤1000→k≤sizeLine:=fun k h=>YAP h (by rw[sizeLine_eq];decide)
  walk_at "rd"
  exact⟨p,ws,rfl,hp,fun w h=>sz _ (hw w h),tk,q⟩
theorem Zow:FnScope ["text","word"] ["text","word"] (Zah s_LI):=by walk_at "sc"
theorem Zo9 (T:TL K mg base a tb):FnOk P w K mg base CX0 1 a.f_LI a.d_LI ["text","word"] (ZnZ K a):=by
 refine T.f_LI.ok Zow (fun vs H Q E h=>?_) (fun cdv A outer s H vs Q E hr h=>?_)
 ·obtain⟨_,_,rfl,_⟩:=h;rfl
 ·have hu64:=hr.units
  have hu1:=ZaM hr
  obtain⟨l,x,rfl,hl,hx,q⟩:=h
  refine⟨_,(Zaf (Zaq (ZbN (ZaX Zdn (pv 1) (pv 0) rfl) (ZbN (ZaX Zgt (ZaC Zbz (pv 1) (ZaE Zag) Za0) (pv 0) rfl) (ZcT (ZaX Zgt (ZaC Zbz (pv 1) Za0 (ZaE (ZhU ZeI Zag))) (pv 0) rfl)))))),?_⟩
  walk_at "rd"
  have sx:x.length≤sizeLine:=YAP hx (by rw[sizeLine_eq];decide)
  unfold Zif at q
  refine⟨x,l,rfl,rfl,ite2 (fun h1=>⟨_,rfl,x,rfl,sx,_,l,rfl,rfl,ite2 (fun h2=>⟨_,rfl,x,rfl,sx,_,l,rfl,rfl,?_⟩) (fun h2=>?_)⟩) (fun h1=>?_)⟩
  ·rw[Zf0]at h2
   rw[ZiD]
   rw[h1,h2,YCC,YCC]at q
   exact q
  ·rw[Zf0]at h2
   rw[h1,YCN.mpr h2,YBc,YCU]at q
   exact q
  ·rw[YCN.mpr h1,YBc]at q
   exact q
theorem ZoL:FnScope ["self","length"] ["self","length"] (Zah s_KA):=by walk_at "sc"
theorem ZmO (T:TL K mg base a tb):FnOk P w K mg base CX0 1 a.g_KA a.e_KA ["self","length"] (Zon K a):=by
 refine T.fm_KA.ok ZoL (fun vs H Q E h=>?_) (fun cdv A outer s H vs Q E hr h=>?_)
 ·obtain⟨_,_,_,rfl,_⟩:=h;rfl
 ·have hu64:=hr.units
  have hu1:=ZaM hr
  obtain⟨p,l,n,rfl,hp,q⟩:=h
  refine⟨_,(Zaf (Zaq (ZaK (K:=K) rfl (pv 0) rfl))),?_⟩
  obtain⟨C,dx,fs,hC,f,gt,_⟩:=hp
  walk_at "rd"
  rcases hC with rfl | rfl
  ·exact⟨p,_,dx,_,_,rfl,f,T.cl_LF,T.n_Plain_own_text,gt,q⟩
  ·exact⟨p,_,dx,_,_,rfl,f,T.cl_LG,T.n_Strip_own_text,gt,q⟩
theorem ZoB:FnScope ["self"] ["self"] (Zah s_KU):=by walk_at "sc"
theorem Zh0 (T:TL K mg base a tb):FnOk P w K mg base CX0 1 a.g_KU a.e_KU ["self"] (ZkA K a):=by
 refine T.fm_KU.ok ZoB (fun vs H Q E h=>?_) (fun cdv A outer s H vs Q E hr h=>?_)
 ·obtain⟨_,_,rfl,_⟩:=h;rfl
 ·have hu64:=hr.units
  have hu1:=ZaM hr
  obtain⟨p,l,rfl,hp,q⟩:=h
  refine⟨_,(Zaf (Zaq (ZaK (K:=K) rfl (pv 0) rfl))),?_⟩
  obtain⟨C,dx,fs,hC,f,gt,_⟩:=hp
  walk_at "rd"
  rcases hC with rfl | rfl
  ·exact⟨p,_,dx,_,_,rfl,f,T.cl_LF,T.n_Plain_own_text,gt,q⟩
  ·exact⟨p,_,dx,_,_,rfl,f,T.cl_LG,T.n_Strip_own_text,gt,q⟩
theorem ZoI:FnScope ["self"] ["self"] (Zah s_KI):=by walk_at "sc"
theorem ZmK (T:TL K mg base a tb):FnOk P w K mg base CX0 1 a.g_KI a.e_KI ["self"] (Zl5 K a):=by
 refine T.fm_KI.ok ZoI (fun vs H Q E h=>?_) (fun cdv A outer s H vs Q E hr h=>?_)
 ·obtain⟨_,_,_,rfl,_⟩:=h;rfl
 ·have hu64:=hr.units
  have hu1:=ZaM hr
  obtain⟨p,l,m,rfl,hp,q⟩:=h
  refine⟨_,(Zaf (Zaq (ZaK (K:=K) rfl (pv 0) rfl))),?_⟩
  obtain⟨C,dx,fs,hC,f,gt,gk,_⟩:=hp
  walk_at "rd"
  rcases hC with rfl | rfl
  ·exact⟨p,_,dx,_,_,rfl,f,T.cl_LF,T.n_Plain_own_kinds,gk,q⟩
  ·exact⟨p,_,dx,_,_,rfl,f,T.cl_LG,T.n_Strip_own_kinds,gk,q⟩
theorem Zov:FnScope ["_law_script","_law_k"] ["_law_script","_law_k"] (Zah s_LJ):=by walk_at "sc"
theorem ZhZ (T:TL K mg base a tb):FnOk P w K mg base CX0 1 a.f_LJ a.d_LJ ["_law_script","_law_k"] (ZnY K a):=by
 refine T.f_LJ.ok Zov (fun vs H Q E h=>?_) (fun cdv A outer s H vs Q E hr h=>?_)
 ·obtain⟨_,_,_,rfl,_⟩:=h;rfl
 ·have hu64:=hr.units
  have hu1:=ZaM hr
  obtain⟨b,ns,k,rfl,hS,hk,hk1,q⟩:=h
  refine⟨_,(Zac (ZaR (Zaw Zmu (pv 1) (Zai (Zas (K:=K) rfl) rfl T.z_len ZaL (Zaa (pv 0) Zab)) (Zax _)) (Zaf (Zaq (Zbg (Zbm (K:=K) rfl) (pv 0) (pv 1) (fun _ _=>rfl)))) Zav)
   (Zaf (Zaq (Zat Za6 (Zat Zdo Zag (pv 1)) Zag)))),?_⟩
  walk_at "rd"
  refine⟨_,_,rfl,.inl ⟨_,hS,rfl⟩,?_⟩
  rw[YAE]
  refine ite2 (fun h=>?_) (fun h=>?_)
  ·have h':k<ns.length:=of_decide_eq_true h
   exact⟨b,_,k,_,rfl,rfl,hS,ZlG hk h',q _⟩
  ·exact⟨.inl ⟨by decide,by decide⟩,q _⟩
theorem ZkG:FnScope ["_law_cell_here","_law_k","_law_number"] ["_law_cell_here","_law_k"] (Zah s_LN):=by walk_at "sc"
theorem Zjf (T:TL K mg base a tb):FnOk P w K mg base CX0 1 a.f_LN a.d_LN ["_law_cell_here","_law_k"] (ZnU K a):=by
 refine T.f_LN.ok ZkG (fun vs H Q E h=>?_) (fun cdv A outer s H vs Q E hr h=>?_)
 ·obtain⟨_,_,rfl,_⟩:=h;rfl
 ·have hu64:=hr.units
  have hu1:=ZaM hr
  obtain⟨c,k,rfl,q⟩:=h
  refine⟨_,(Zac (Zau (i:=2) ZkG.nd rfl (Or.inl rfl) (Zat ZaQ (Zat Za6 (Zat Za6 (Zat Zdo (Zat ZaQ (pv 0) Zag) Zag) (Zat Zdo (pv 1) Zag)) Zag) Zag))
   (Zac (Zau (i:=2) ZkG.nd rfl (Or.inl rfl) (Zat ZaQ (Zat Za6 (Zat Za6 (Zat Zdo (Zat ZaQ (Zat Zdo (pv 2) (pv 2)) Zag) Zag) (Zat Zdo (pv 1) Zag)) Zag) Zag))
   (Zaf (Zaq (Zat ZaQ (Zat Zdo (pv 2) (pv 2)) Zag))))),?_⟩
  walk_at "rd"
  exact⟨by decide,.inr ⟨by decide,by decide⟩,.inr ⟨by decide,by decide⟩,by decide,cm (by decide) (by decide),by decide,.inr ⟨by decide,by decide⟩,.inr ⟨by decide,by decide⟩,by decide,cm (by decide) (by decide),by decide,q _ (YBu _ (by decide))⟩
theorem ZgW:FnScope ["_law_cell_here","_law_letters_here","_law_found","_law_left","_law_k"] ["_law_cell_here"] (Zah s_LB):=by walk_at "sc"
theorem Zpb (T:TL K mg base a tb):FnOk P w K mg base CX0 1 a.f_LB a.d_LB ["_law_cell_here"] (Zn4 K a):=by
 refine T.f_LB.ok ZgW (fun vs H Q E h=>?_) (fun cdv A outer s H vs Q E hr h=>?_)
 ·obtain⟨_,rfl,_⟩:=h;rfl
 ·have hu64:=hr.units
  have hu1:=ZaM hr
  obtain⟨c,rfl,q⟩:=h
  refine⟨_,(Zac (Zau (i:=1) ZgW.nd rfl (Or.inl rfl) (ZbC (ZbY rfl) rfl T.z_list Zbw (Zaa (ZaO (l:=[97,98,99,100,101,102,103,104,105,106,107,108,109,110,111,112,113,114,115,116,117,118,119,120,121,122]) (by decide +kernel)) Zab)))
   (Zac (Zau (i:=2) ZgW.nd rfl (Or.inl rfl) (Zbo Zab))
   (Zac (Zau (i:=3) ZgW.nd rfl (Or.inl rfl) (Zat Za1 (pv 0) Zag))
   (Zac (ZbA YBN rfl (ZbB rfl T.z_range (Zaa (Zat Za6 Zag (Zat ZaQ (pv 0) Zag)) Zab)) (ZaF (i:=4) ZgW.nd rfl (Or.inl rfl))
   (Zac (ZaW (ZeU YBe YCJ YCI ZbD (pv 2) (Zaa (ZeU YBe PySem.F.slot_list_pop PySem.F.type_list_pop Zjk (pv 1) (Zaa (Zat ZaQ (pv 3) (Zai (Zas (K:=K) rfl) rfl T.z_len ZaL (Zaa (pv 1) Zab))) Zab)) Zab)))
   (Zaf (Zau (i:=3) ZgW.nd rfl (Or.inl rfl) (Zat Za1 (pv 3) Zag)))))
   (Zaf (Zaq (ZeU YCz PySem.F.slot_str_join PySem.F.type_str_join Zk5 (ZaO (l:=[]) (by decide +kernel)) (Zaa (Zai (ZeB rfl) rfl T.z_sorted ZdI (Zaa (pv 2) Zab)) Zab)))))))),?_⟩
  walk_at "rd"
  refine⟨LET,rfl,by decide,NewL.at fun p1 n1=>⟨YAz _,NewL.at fun p2 n2=>?_⟩⟩
  have n2':H p2=none:=(Zaz n1).free n2
  have ne:p1≠p2:=fun e=>by rw[←e,Zad]at n2;cases n2
  have b1:=YBu c (show (4:Int)≠0 by decide)
  have b2:=YBm c (show (0:Int)<4 by decide)
  generalize c % 4=c4 at b1 b2
  refine⟨⟨by decide,by decide⟩,by decide,_,rfl,by omega,by omega,ForRun.range (fun i σ H'=>Same H H'∧∃(L F:List Nat) (le:Int) (v4:Option V),σ=[some (.int c),some (.ref p1),some (.ref p2),some (.int le),v4]∧H' p1=some (.lst ((signs L).map tx))∧H' p2=some (.lst ((signs F).map tx))∧(L++F).Perm LET∧F.length=i) ?_ ?_ ?_⟩
  ·exact⟨(Zaz n1).trans (Zaz n2),LET,[],_,none,rfl,by rw[Zae ne];exact Zad,Zad,by rw[YBt],rfl⟩
  ·rintro i σ H1 hi ⟨s1,L,F,le,v4,rfl,h1,h2,pm,lf⟩
   have hi4:i<4:=by omega
   have ll:=pm.length_eq
   have l26:LET.length=26:=rfl
   rw[YAF,l26]at ll
   have sl:((signs L).map tx).length=L.length:=by unfold signs;rw[YAE,YAE]
   walk_at "rd"
   have lx0:(0:Int)<(L.length:Nat):=by omega
   have m0:=YBu le (show ((L.length:Nat):Int)≠0 by omega)
   have m1:=YBm le lx0
   refine⟨.inl ⟨rfl,_,.mk h2⟩,.inl ⟨rfl,_,.mk h1⟩,_,_,rfl,.inl ⟨_,.mk h1,rfl⟩,?_⟩
   rw[sl]
   generalize hk:le % ((L.length:Nat):Int)=k at m0 m1
   have kl:k.toNat<L.length:=by omega
   refine⟨lx0,p1,(signs L).map tx,k,k.toNat,tx [L[k.toNat]],rfl,rfl,h1,by omega,by omega,?_,?_,?_⟩
   ·rw[sl]
    have nk:¬k<0:=by omega
    simp[seqIndex?,nk,m0,m1]
   ·unfold signs
    rw[YBZ,YAo,YAM kl]
    rfl
   refine⟨p2,(signs F).map tx,tx [L[k.toNat]],rfl,rfl,by rw[Zae (YAx ne)];exact h2,by unfold signs;rw[YAE,YAE,sizeLine_eq];omega,?_⟩
   refine⟨⟨by decide,by decide⟩,same_upd3 (same_upd3 s1 n1) n2',L.eraseIdx k.toNat,F++[L[k.toNat]],_,_,rfl,?_,?_,?_,by simp[lf]⟩
   ·rw[Zae ne,Zad]
    unfold signs
    rw[Zdr,Zdr]
   ·rw[Zad]
    unfold signs
    simp
   ·have p3:=Zbn L k.toNat kl
    have p4:(L.eraseIdx k.toNat++(F++[L[k.toNat]])).Perm ((L[k.toNat]::L.eraseIdx k.toNat)++F):=by
     rw[←YAh]
     exact List.perm_append_comm
    exact(p4.trans (p3.append_right F)).trans pm
  ·rintro σ H1 ⟨s1,L,F,le,v4,rfl,h1,h2,pm,lf⟩
   walk_at "rd"
   have nd:(L++F).Nodup:=pm.nodup_iff.mpr (by decide)
   have ndF:=(YDB.mp nd).2.1
   have sub:∀c∈F,c∈LET:=fun c hc=>pm.mem_iff.mp (YAy _ hc)
   obtain⟨k1,k2⟩:=Zhe ndF sub (by omega) (by omega)
   have one:∀m∈Za4 (signs F),m.length=1:=fun m hm=>by
    obtain⟨c,_,rfl⟩:=YBX.mp ((ZaJ _).mem_iff.mp hm)
    rfl
   have sl:(signs F).length=F.length:=by unfold signs;rw[YAE]
   refine⟨rfl,p2,signs F,rfl,h2,by rw[sizeLine_eq];omega,NewL.of fun p3 H3 s3 n3 l3=>⟨[],p3,Za4 (signs F),rfl,rfl,l3,?_,?_⟩⟩
   ·rw[←List.length_flatten,k2,(ZaJ _).length_eq,sl]
    simp
    omega
   ·rw[ZgC]
    exact q _ H3 k1 (by omega) (by omega) (s1.trans s3)
theorem Zi0:FnScope ["_law_kinds_here","_law_most","_law_number","_law_odd","_law_some"] ["_law_kinds_here","_law_most","_law_number"] (Zah s_LT):=by walk_at "sc"
theorem Zo5 (T:TL K mg base a tb):FnOk P w K mg base CX0 1 a.f_LT a.d_LT ["_law_kinds_here","_law_most","_law_number"] (ZnR K a):=by
 refine T.f_LT.ok Zi0 (fun vs H Q E h=>?_) (fun cdv A outer s H vs Q E hr h=>?_)
 ·obtain⟨_,_,_,rfl,_⟩:=h;rfl
 ·have hu64:=hr.units
  have hu1:=ZaM hr
  obtain⟨m,most,n,rfl,ok,h1,h100,q⟩:=h
  refine⟨_,(Zac (Zau (i:=3) Zi0.nd rfl (Or.inl rfl) (Zbg (Zbm (K:=K) rfl) (ZbK (N:=["_law_letter","_law_kinds_here"]) (ix:=[none,some 0]) rfl (Zbc rfl) rfl (Zdm (ZaO (l:=[97,98,99,100,101]) (by decide +kernel))) (fun _ _ _ _=>(ZaF (i:=0) (show (["_law_letter","_law_kinds_here"]:List Str).Nodup from by decide +kernel) rfl (Or.inl rfl) (Or.inr rfl))) (fun _ _ _ _=>(Zcm (Zaw Zef (pv 0) (pv 1) rfl))) (fun _ _ _ _=>(pv 0))) Zag (fun _ _=>rfl)))
   (Zac (Zau (i:=4) Zi0.nd rfl (Or.inl rfl) (Zbo (Zaa (Zat ZaP (Zat ZeW (Zbg ZcH (pv 0) Zag (fun _ _=>rfl)) (pv 1)) (Zbg ZcH (pv 0) Zag (fun _ _=>rfl))) (Zaa (pv 3) (Zaa (Zat ZaP (Zat ZaP (Zbg ZcH (pv 0) Zag (fun _ _=>rfl)) (pv 3)) (Zbg ZcH (pv 0) Zag (fun _ _=>rfl))) (Zaa (Zj2 YCz PySem.F.slot_str_upper PySem.F.type_str_upper Zh4 (Zbg ZcH (pv 0) Zag (fun _ _=>rfl))) (Zaa (ZaO (l:=[32]) (by decide +kernel)) (Zaa (Zat ZaP (Zbg ZcH (pv 0) Zag (fun _ _=>rfl)) (ZaO (l:=[32]) (by decide +kernel))) (Zaa (ZaO (l:=[63]) (by decide +kernel)) Zab)))))))))
   (Zac (Zau (i:=4) Zi0.nd rfl (Or.inl rfl) (Zat ZeY (pv 4) (Zbo (Zaa Zb8 (Zaa Zag (Zaa Zbp (Zaa Zag (Zaa (Zbo Zab) (Zaa (Zbo (Zaa (Zbg ZcH (pv 0) Zag (fun _ _=>rfl)) Zab)) (Zaa (ZbV (Zaa (Zbg ZcH (pv 0) Zag (fun _ _=>rfl)) Zab)) (Zaa Zgp (Zaa (ZkW (Zja (Zbg ZcH (pv 0) Zag (fun _ _=>rfl)) (Zbg ZcH (pv 0) Zag (fun _ _=>rfl)) ZkU) rfl rfl (by simp) (by decide)) Zab))))))))))))
   (Zaf (Zaq (Zbg (Zbm (K:=K) rfl) (pv 4) (Zat ZaQ (pv 2) Zag) (fun _ _=>rfl))))))),?_⟩
  have m1:=ok.m1
  have m4:=ok.m4
  have sz:∀k:Nat,k≤1000→k≤sizeLine:=fun k h=>YAP h (by rw[sizeLine_eq];decide)
  obtain⟨c0,hc,mc⟩:=ZjA m1
  have lc:=ok.lets c0 mc
  obtain⟨od,rest,hod,nod,aod⟩:=ZmR (m:=m) (A:=[97,98,99,100,101]) (by decide) (by show m.length<5;omega)
  walk_at "rd"
  refine⟨_,rfl,CompRun.text (l:=[97,98,99,100,101]) (fun i=>!decide (([97,98,99,100,101]:List Nat).getD i 0∈m)) (fun i=>tx [([97,98,99,100,101]:List Nat).getD i 0]) (by decide) ?_ ?_ ?_⟩
  ·intro i H1 Q1 hi s1 q1
   walk_at "rd"
   exact⟨_,m,rfl,rfl,q1 H1 (Same.refl _)⟩
  ·intro i H1 Q1 hi _ s1 q1
   walk_at "rd"
   exact q1 H1 (Same.refl _)
  ·intro p1 H1 s1 n1 l1
   rw[hod]at l1
   have hr:repT [c0] most=List.replicate most.toNat c0:=rep1 c0 most
   have lr:(repT [c0] most).length=most.toNat:=by rw[hr,List.length_replicate]
   have szm:m.length≤sizeLine:=sz _ (by omega)
   refine⟨p1,_,_,_,rfl,rfl,.mk l1,atI0,m,0,c0,rfl,rfl,szm,hc,[c0],most,rfl,rfl,by omega,by omega,by simp,m,0,c0,rfl,rfl,szm,hc,sz _ (by rw[lr];omega),m,0,c0,rfl,rfl,szm,hc,?_⟩
   refine⟨[c0],[od],rfl,rfl,sz _ (by simp),m,0,c0,rfl,rfl,szm,hc,[c0]++[od],[c0],rfl,rfl,sz _ (by simp),m,0,c0,rfl,rfl,szm,hc,rfl,[c0],rfl,trivial,by simp,fun c h=>by rw[YAS.mp h];exact lc,m,0,c0,rfl,rfl,szm,hc,sz _ (by decide),sz _ (by decide),NewL.of fun p2 H2 s2 n2 l2=>?_⟩
   refine⟨sz _ (by decide),NewL.of fun p3 H3 s3 n3 l3=>⟨m,0,c0,rfl,rfl,szm,hc,sz _ (by decide),NewL.of fun p4 H4 s4 n4 l4=>⟨m,0,c0,rfl,rfl,szm,hc,sz _ (by decide),NewT.of fun p5 H5 s5 n5 l5=>?_⟩⟩⟩
   intro p6 n6
   intro p7 n7
   have s6:Same H5 (upd H5 p6 (.dK [])):=Zaz n6
   have h6:upd H5 p6 (.dK []) p6=some (.dK []):=Zad
   generalize upd H5 p6 (.dK [])=H6 at s6 h6 n7
   refine⟨m,0,c0,rfl,rfl,szm,hc,m,0,c0,rfl,rfl,szm,hc,Zad,[(.inr ⟨[c0].toArray⟩,tx [c0])],rfl,by show (1:Nat)≤15;decide,sz _ (by decide),?_⟩
   have s7:Same H6 (upd (upd H6 p7 (.dK [])) p7 (.dK (Zca [] [(.inr ⟨[c0].toArray⟩,tx [c0])]))):=ZbR n7
   have h7:upd (upd H6 p7 (.dK [])) p7 (.dK (Zca [] [(.inr ⟨[c0].toArray⟩,tx [c0])])) p7=some (.dK (Zca [] [(.inr ⟨[c0].toArray⟩,tx [c0])])):=Zad
   generalize upd (upd H6 p7 (.dK [])) p7 (.dK (Zca [] [(.inr ⟨[c0].toArray⟩,tx [c0])]))=H7 at s7 h7
   refine NewL.of fun p8 H8 s8 n8 l8=>?_
   have s28:Same H2 H8:=s3.trans (s4.trans (s5.trans (s6.trans (s7.trans s8))))
   refine ZnB (s28 _ _ l2) l8 (sz _ (by show (16:Nat)≤1000;decide)) fun p9 H9 s9 n9 l9=>⟨by decide,?_⟩
   obtain⟨v,hv,hm⟩:=ZgK (xs:=[tx (repT [c0] most++[c0]),tx [od],tx ([c0]++[od]++[c0]),tx ([c0].map fun x=>x-32),tx [32],tx [c0,32],tx [63]]++[V.non,V.int 5,V.bl true,V.int 0,V.ref p3,V.ref p4,V.ref p5,V.ref p6,V.ref p7]) (i:=n % 16) (by omega) (by show _<(16:Int);omega)
   refine⟨p9,_,_,v,rfl,rfl,.mk l9,hv,q v H9 (s1.trans (s2.trans (s28.trans s9))) ?_⟩
   have tk:∀l:List Nat,l.length≤1000→isw l m most=false→BadW K H9 (tx l) m most:=fun l a b=>.inl ⟨l,rfl,a,b⟩
   simp only[YCr,List.nil_append,YAK,YBn,or_false]at hm
   rcases hm with rfl | rfl | rfl | rfl | rfl | rfl | rfl | rfl | rfl | rfl | rfl | rfl | rfl | rfl | rfl | rfl
   ·exact tk _ (by rw[YAF,lr,YAp];omega) (Zjv (by rw[YAF,lr,YAp];omega))
   ·exact tk _ (by simp) (ZcI (c:=od) (by simp) nod)
   ·exact tk _ (by simp) (ZcI (c:=od) (by simp) nod)
   ·exact tk _ (by simp) (ZcI (c:=c0-32) (by simp) (ok.out (by omega)))
   ·exact tk _ (by simp) (ZcI (c:=32) (by simp) (ok.out (by omega)))
   ·exact tk _ (by simp) (ZcI (c:=32) (by simp) (ok.out (by omega)))
   ·exact tk _ (by simp) (ZcI (c:=63) (by simp) (ok.out (by omega)))
   ·exact .inr ZkZ
   ·exact .inr ZhW
   ·exact .inr Zmr
   ·exact .inr ZhW
   ·exact .inr (ZhV ((s4.trans (s5.trans (s6.trans (s7.trans (s8.trans s9))))) _ _ l3) rfl)
   ·exact .inr (ZhV ((s5.trans (s6.trans (s7.trans (s8.trans s9)))) _ _ l4) rfl)
   ·exact .inr (ZkY ((s6.trans (s7.trans (s8.trans s9))) _ _ l5) rfl)
   ·exact .inr (Zj3 ((s7.trans (s8.trans s9)) _ _ h6))
   ·exact .inr (Zj3 ((s8.trans s9) _ _ h7))
theorem ZoC:FnScope ["self","text","kinds"] ["self","text","kinds"] (Zah s_KT):=by walk_at "sc"
theorem ZmE (T:TL K mg base a tb):FnOk P w K mg base CX0 1 a.g_KT a.e_KT ["self","text","kinds"] (Zoa K a):=by
 refine T.fm_KT.ok ZoC (fun vs H Q E h=>?_) (fun cdv A outer s H vs Q E hr h=>?_)
 ·obtain⟨_,_,_,_,_,rfl,_⟩:=h;rfl
 ·have hu64:=hr.units
  have hu1:=ZaM hr
  obtain⟨p,dx,C,l,m,rfl,hC,hp,q⟩:=h
  refine⟨_,(Zac (ZdU (pv 0) (pv 1) rfl)
   (Zaf (ZdU (pv 0) (pv 2) rfl))),?_⟩
  walk_at "rd"
  rcases hC with rfl | rfl
  ·exact⟨p,a.c_LF,dx,[],rfl,hp,T.cl_LF,T.n_Plain_own_text,(by show 0<1000;decide),p,a.c_LF,dx,_,rfl,Zad,T.cl_LF,T.n_Plain_own_kinds,(by show 1<1000;decide),q _ Zad (fun b o e ne=>by rw[Zae ne,Zae ne];exact e)⟩
  ·exact⟨p,a.c_LG,dx,[],rfl,hp,T.cl_LG,T.n_Strip_own_text,(by show 0<1000;decide),p,a.c_LG,dx,_,rfl,Zad,T.cl_LG,T.n_Strip_own_kinds,(by show 1<1000;decide),q _ Zad (fun b o e ne=>by rw[Zae ne,Zae ne];exact e)⟩
theorem ZoM:FnScope ["_law_text_here","_law_word_here"] ["_law_text_here","_law_word_here"] (Zah s_K6):=by walk_at "sc"
theorem Zpi (T:TL K mg base a tb):FnOk P w K mg base CX0 1 a.f_K6 a.d_K6 ["_law_text_here","_law_word_here"] (Zop K a):=by
 refine T.f_K6.ok ZoM (fun vs H Q E h=>?_) (fun cdv A outer s H vs Q E hr h=>?_)
 ·obtain⟨_,_,rfl,_⟩:=h;rfl
 ·have hu64:=hr.units
  have hu1:=ZaM hr
  obtain⟨l,w_,rfl,l40,hw,q⟩:=h
  refine⟨_,(Zaf (Zaq (ZbK (N:=["_law_start","_law_text_here","_law_word_here"]) (ix:=[none,some 0,some 1]) rfl (Zbc rfl) rfl (ZbB rfl T.z_range (Zaa (Zat Za6 (Zat Zgr (Zai (Zas (K:=K) rfl) rfl T.z_len ZaL (Zaa (pv 0) Zab)) (Zai (Zas (K:=K) rfl) rfl T.z_len ZaL (Zaa (pv 1) Zab))) Zag) Zab)) (fun _ _ _ _=>(ZaF (i:=0) (show (["_law_start","_law_text_here","_law_word_here"]:List Str).Nodup from by decide +kernel) rfl (Or.inl rfl) (Or.inr rfl))) (fun _ _ _ _=>(Zcm (Zaw (ZaH (K:=K) rfl hu64) (ZaC Zbz (pv 1) (ZaE (pv 0)) (ZaE (Zat Za6 (pv 0) (Zai (Zas (K:=K) rfl) rfl T.z_len ZaL (Zaa (pv 2) Zab))))) (pv 2) (Zax _)))) (fun _ _ _ _=>(pv 0))))),?_⟩
  have sz:∀k:Nat,k≤9000→k≤sizeLine:=fun k h=>YAP h (by rw[sizeLine_eq];decide)
  walk_at "rd"
  refine⟨_,_,rfl,Zbl (by omega),_,_,rfl,Zbl (by omega),_,rfl,by omega,by omega,?_⟩
  have en:((l.length:Int)-(w_.length:Int)+1).toNat=l.length+1-w_.length:=by omega
  rw[en]
  refine CompRun.range (fun i=>decide ((l.drop i).take w_.length=w_)) (fun i=>.int ((i:Nat):Int)) (by omega) ?_ ?_ ?_
  ·intro i H1 Q1 hi s1 q1
   have e1:(0+(i:Int))=((i:Nat):Int):=by omega
   have e2:((i:Nat):Int)+(w_.length:Nat)=((i+w_.length:Nat):Int):=by omega
   walk_at "rd"
   refine⟨_,rfl,_,_,rfl,Zbl (by omega),_,rfl,l,rfl,sz _ (by omega),.inl ⟨rfl,_,rfl,?_⟩⟩
   rw[YAJ YAC,ZcV,e1,e2,Zkl]
   have e3:i+w_.length-i=w_.length:=by omega
   rw[e3]
   exact q1 H1 (Same.refl _)
  ·intro i H1 Q1 hi _ s1 q1
   have e1:(0+(i:Int))=((i:Nat):Int):=by omega
   walk_at "rd"
   rw[e1]
   exact q1 H1 (Same.refl _)
  ·intro p H2 s2 n2 l2
   exact q p H2 s2 n2 l2
theorem ZoO:FnScope ["thing"] ["thing"] (Zah s_K2):=by walk_at "sc"
theorem Zpj (T:TL K mg base a tb):FnOk P w K mg base CX0 2 a.f_K2 a.d_K2 ["thing"] (Zos K a):=by
 refine T.f_K2.ok ZoO (fun vs H Q E h=>?_) (fun cdv A outer s H vs Q E hr h=>?_)
 ·obtain⟨_,rfl,_⟩:=h;rfl
 ·have hu64:=hr.units
  have hu1:=ZaM hr
  obtain⟨v,rfl,q⟩:=h
  refine⟨_,(Zac (ZaR (Zbq (Za5 (Zai (Zao (K:=K) rfl) rfl T.z_isinstance Zal (Zaa (pv 0) (Zaa (ZaD (v:=.ty "str") rfl T.z_str Zd7 rfl) Zab))))) (Zaf (Zaq Zbp)) Zav)
   (Zac (ZaR (PW.pt (ZhL (Zaw Zmu (Zai (Zas (K:=K) rfl) rfl T.z_len ZaL (Zaa (pv 0) Zab)) Zag (Zax _)) (ZeR (Zaw Zje (Zai (Zas (K:=K) rfl) rfl T.z_len ZaL (Zaa (pv 0) Zab)) (Zcp rfl T.c_KK) (Zax _))))) (Zaf (Zaq Zbp)) Zav)
   (Zaf (Zaq (ZbN (Zan (ZmQ T) (hr.mono (by decide)) rfl T.m_K0 T.f_K0.kp T.b_K0 .nil Zay (Zaa (pv 0) (Zaa (Zjd rfl T.c_KD) Zab))) (ZcT (ZaX (ZaH (K:=K) rfl hu64) (ZbC (ZbY rfl) rfl T.z_list Zbw (Zaa (pv 0) Zab)) (Zai (ZdG rfl) rfl T.z_sorted ZdI (Zaa (ZbC (ZdH rfl) rfl T.z_set Zkn (Zaa (pv 0) Zab)) Zab)) (Zax _)))))))),?_⟩
  walk_at "rd"
  rcases q with⟨l,rfl,hl,q⟩|⟨⟨T0,_,ty,kt,_⟩,q⟩
  ·refine⟨_,_,_,_,true,rfl,rfl,.ty (.pl (.str _)),Zcy,iteF ?_⟩
   refine⟨_,_,rfl,Zbl hl,?_⟩
   refine ite2 (fun h=>iteT' ?_) (fun h=>?_)
   ·have h1:¬1≤l.length:=by have:=of_decide_eq_true h;omega
    have e:=q H (Same.refl _)
    unfold isk at e
    rw[decide_eq_false h1,YBc,YBc,YBc]at e
    exact e
   ·have h1:1≤l.length:=by have:¬((l.length:Nat):Int)<1:=fun z=>h (decide_eq_true z);omega
    refine⟨_,_,rfl,Zbl hl,?_⟩
    refine ite2 (fun h'=>?_) (fun h'=>?_)
    ·have h4:¬l.length≤4:=by have:=of_decide_eq_true h';omega
     have e:=q H (Same.refl _)
     unfold isk at e
     rw[decide_eq_false h4,YCU,YBc,YBc]at e
     exact e
    ·have h4:l.length≤4:=by have:¬4<((l.length:Nat):Int):=fun z=>h' (decide_eq_true z);omega
     refine⟨l,LET,by rw[Zla],hl,fun H2 s2=>⟨_,rfl,?_⟩⟩
     refine ite2 (fun ha=>?_) (fun ha=>?_)
     ·refine⟨l,rfl,hl,NewL.of fun p1 H3 s3 n3 l3=>?_⟩
      refine⟨signs l,by rw[signs_length];exact hl,.inl ⟨l,rfl,rfl⟩,fun p4 n4=>?_⟩
      refine⟨p4,ddl (signs l),rfl,Zad,YCW (Zly l) (by omega),NewL.of fun p5 H5 s5 n5 l5=>?_⟩
      refine Znx (.mk ((Zaz n4).trans s5 _ _ l3)) (.mk l5) ?_
      have e:=q H5 (s2.trans (s3.trans ((Zaz n4).trans s5)))
      unfold isk at e
      rw[decide_eq_true h1,decide_eq_true h4,ha,YCC,YCC,YCC]at e
      exact e
     ·have e:=q H2 s2
      unfold isk at e
      rw[YCN.mpr ha,YCU,YBc]at e
      exact e
  ·exact⟨_,_,_,_,false,rfl,rfl,.ty ty,kt,iteT q⟩
theorem ZoN:FnScope ["thing","kinds","most"] ["thing","kinds","most"] (Zah s_K4):=by walk_at "sc"
theorem ZmP (T:TL K mg base a tb):FnOk P w K mg base CX0 2 a.f_K4 a.d_K4 ["thing","kinds","most"] (Zor K a):=by
 refine T.f_K4.ok ZoN (fun vs H Q E h=>?_) (fun cdv A outer s H vs Q E hr h=>?_)
 ·obtain⟨_,_,_,rfl,_⟩:=h;rfl
 ·have hu64:=hr.units
  have hu1:=ZaM hr
  obtain⟨v,m,most,rfl,q⟩:=h
  refine⟨_,(Zaf (Zaq (ZbN (Zai (Zao (K:=K) rfl) rfl T.z_isinstance Zal (Zaa (pv 0) (Zaa (ZaD (v:=.ty "str") rfl T.z_str Zd7 rfl) Zab))) (ZbN (ZaX Zo2 (Zai (Zas (K:=K) rfl) rfl T.z_len ZaL (Zaa (pv 0) Zab)) (pv 2) (Zax _)) (ZcT (Zan (ZmQ T) (hr.mono (by decide)) rfl T.m_K0 T.f_K0.kp T.b_K0 .nil Zay (Zaa (pv 0) (Zaa (pv 1) Zab)))))))),?_⟩
  walk_at "rd"
  rcases q with⟨l,rfl,hl,q⟩|⟨⟨T0,_,ty,kt,_⟩,q⟩
  ·refine⟨_,_,_,_,true,rfl,rfl,.ty (.pl (.str _)),Zcy,iteT ?_⟩
   refine⟨_,_,rfl,Zbl hl,?_⟩
   refine ite2 (fun h=>?_) (fun h=>?_)
   ·refine⟨l,m,rfl,hl,fun H2 s2=>?_⟩
    have e:=q H2 s2
    unfold isw at e
    rw[h,YCC]at e
    exact e
   ·have e:=q H (Same.refl _)
    unfold isw at e
    rw[YCN.mpr h,YBc]at e
    exact e
  ·exact⟨_,_,_,_,false,rfl,rfl,.ty ty,kt,iteF q⟩
theorem ZkH:FnScope ["lesser","longer","edges","size"] ["lesser","longer"] (Zah s_LH):=by walk_at "sc"
theorem Zmy (T:TL K mg base a tb):FnOk P w K mg base CX0 2 a.f_LH a.d_LH ["lesser","longer"] (Zn0 K a):=by
 refine T.f_LH.ok ZkH (fun vs H Q E h=>?_) (fun cdv A outer s H vs Q E hr h=>?_)
 ·obtain⟨_,_,rfl,_⟩:=h;rfl
 ·have hu64:=hr.units
  have hu1:=ZaM hr
  obtain⟨s_,L,rfl,hL,ex,tk,q⟩:=h
  refine⟨_,(Zac (Zau (i:=2) ZkH.nd rfl (Or.inl rfl) (Zbo Zab))
   (Zaj (Zac (ZbA YBN rfl (ZhS rfl T.z_range (Zaa Zag (Zaa (Zat Za6 (Zai (Zas (K:=K) rfl) rfl T.z_len ZaL (Zaa (pv 1) Zab)) Zag) Zab))) (ZaF (i:=3) ZkH.nd rfl (Or.inl rfl))
   (Zac (ZaW (ZeU YBe YCJ YCI ZbD (pv 2) (Zaa (ZaC Zbz (pv 1) Za0 (ZaE (pv 3))) Zab)))
   (Zaf (ZaW (ZeU YBe YCJ YCI ZbD (pv 2) (Zaa (ZaC Zbz (pv 1) (ZaE (Zat Zgr (Zai (Zas (K:=K) rfl) rfl T.z_len ZaL (Zaa (pv 1) Zab)) (pv 3))) Za0) Zab))))))
   (Zaj (Zaf (Zaq (Zan (Zk3 T) (hr.mono (by decide)) rfl T.m_K1 T.f_K1.kp T.b_K1 .nil Zay (Zaa (Zai (Zc0 rfl) rfl T.z_sorted ZdI (Zaa (ZbC (ZdH rfl) rfl T.z_set Zkn (Zaa (ZbK (N:=["word","lesser"]) (ix:=[none,some 0]) rfl (Zbc rfl) rfl (Zbj (K:=K) rfl (pv 2)) (fun _ _ _ _=>(ZaF (i:=0) (show (["word","lesser"]:List Str).Nodup from by decide +kernel) rfl (Or.inl rfl) (Or.inr rfl))) (fun _ _ _ _=>(Zcm (Zaw Zdn (pv 0) (pv 1) rfl))) (fun _ _ _ _=>(pv 0))) Zab)) Zab)) Zab)))))))),?_⟩
  have sz:∀k:Nat,k≤9000→k≤sizeLine:=fun k h=>YAP h (by rw[sizeLine_eq];decide)
  walk_at "rd"
  refine⟨YAz _,NewL.of fun pe H1 s1 ne le=>?_⟩
  refine Zam ?_
  walk_at "rd"
  refine⟨_,_,rfl,Zbl (by omega),_,_,rfl,⟨by decide,by decide,by omega,by omega⟩,?_⟩
  have ej:((L.length:Int)+1-1).toNat=L.length:=by omega
  rw[ej]
  refine ForRun.range (fun i σ H'=>∃v3,σ=[some (tx s_),some (tx L),some (.ref pe),v3]∧Same H H'∧H' pe=some (.lst ((ZaY L i).map tx))) ⟨_,rfl,s1,le⟩ ?_ ?_
  ·rintro i σ H2 hi ⟨v3,rfl,s2,h2⟩
   have el:=ZcA L i
   have e1:(1+(i:Int))=((i+1:Nat):Int):=by omega
   have e2:(L.length:Int)-(1+(i:Int))=((L.length-(i+1):Nat):Int):=by omega
   walk_at "rd"
   refine⟨.inl ⟨rfl,_,.mk h2⟩,_,rfl,L,rfl,sz _ (by omega),pe,_,_,rfl,rfl,h2,by rw[YAE];exact sz _ (by omega),.inl ⟨rfl,_,.mk Zad⟩,_,_,rfl,Zbl (by omega),_,rfl,L,rfl,sz _ (by omega),pe,_,_,rfl,rfl,Zad,by rw[YAF,YAE];exact sz _ (by rw[YAp];omega),_,rfl,?_,?_⟩
   ·exact same_upd3 (same_upd3 s2 ne) ne
   ·rw[Zad,e1,Zfp,←e1,e2,Zb5,Zd2,YCM,YAh]
    rfl
  ·rintro σ H2 ⟨v3,rfl,s2,h2⟩
   walk_at "rd?"
   refine Zam ?_
   walk_at "rd"
   have el:=ZcA L L.length
   refine⟨pe,rfl,⟨_,.mk h2⟩,CompRun.listL (xs:=(ZaY L L.length).map tx) (fun i=>!infB ((ZaY L L.length).getD i []) s_) (fun i=>tx ((ZaY L L.length).getD i [])) (by rw[YAE];omega) (.mk h2) ?_ ?_ ?_⟩
   ·intro i H3 Q3 hi s3 q3
    rw[YAE]at hi
    rw[Zdz hi]
    walk_at "rd"
    exact⟨_,_,rfl,rfl,q3 H3 (Same.refl _)⟩
   ·intro i H3 Q3 hi _ s3 q3
    rw[YAE]at hi
    rw[Zdz hi]
    walk_at "rd"
    exact q3 H3 (Same.refl _)
   ·intro p3 H3 s3 n3 l3
    have eh:((List.range ((ZaY L L.length).map tx).length).filter fun i=>!infB ((ZaY L L.length).getD i []) s_).map (fun i=>tx ((ZaY L L.length).getD i []))=((ZaY L L.length).filter fun v=>!infB v s_).map tx:=by
     rw[YAE,←ZcL (fun v=>!infB v s_) [] (ZaY L L.length),YBZ]
     rfl
    rw[eh]at l3
    have fl:=YAt (fun v=>!infB v s_) (ZaY L L.length)
    generalize hF:(ZaY L L.length).filter (fun v=>!infB v s_)=F0 at l3 fl
    have mF:∀w,w∈F0↔Frs s_ L w:=fun w=>by
     rw[←hF,YCL,Ze4,Zir ex,Bool.not_eq_true',ZgA]
    have dl:=Zpt F0
    refine⟨F0,by omega,.inr ⟨p3,rfl,.mk l3⟩,fun p4 n4=>⟨p4,_,rfl,Zad,sz _ (by omega),NewL.of fun p5 H5 s5 n5 l5=>?_⟩⟩
    have s25:Same H H5:=s2.trans (s3.trans ((Zaz n4).trans s5))
    have pm0:=ZaJ (ddl F0)
    refine⟨p5,_,rfl,l5,fun w hw=>?_,tk.same s25,fun ws r H6 pm pw sl tk6 nr lr=>?_⟩
    ·have:=((mF w).mp (ZfL.mp (pm0.mem_iff.mp hw))).1.len
     omega
    ·refine q ws r H6 (Zcg pm pw (pm0.nodup_iff.mpr (Zh3 F0))) (fun w=>?_) (fun b o e t=>sl _ _ (s25 _ _ e) t) tk6 ((Nw.of nr).same s25) lr
     rw[pm.mem_iff,pm0.mem_iff,ZfL,mF]
theorem ZeO:FnScope ["_law_cell_here","_law_kinds_here","_law_size","_law_digits","_law_found","_law_left","_law_k","_law_number"] ["_law_cell_here","_law_kinds_here","_law_size","_law_digits"] (Zah s_K5):=by walk_at "sc"
theorem Zk2 (T:TL K mg base a tb):FnOk P w K mg base CX0 2 a.f_K5 a.d_K5 ["_law_cell_here","_law_kinds_here","_law_size","_law_digits"] (Zoq K a):=by
 refine T.f_K5.ok ZeO (fun vs H Q E h=>?_) (fun cdv A outer s H vs Q E hr h=>?_)
 ·obtain⟨_,_,_,_,rfl,_⟩:=h;rfl
 ·have hu64:=hr.units
  have hu1:=ZaM hr
  obtain⟨c,m,n,d,rfl,hm,h4,h0,h1,q⟩:=h
  refine⟨_,(Zac (Zau (i:=4) ZeO.nd rfl (Or.inl rfl) (ZaO (l:=[]) (by decide +kernel)))
   (Zac (Zau (i:=5) ZeO.nd rfl (Or.inl rfl) (pv 0))
   (Zac (ZbA YBN rfl (ZbB rfl T.z_range (Zaa (pv 2) Zab)) (ZaF (i:=6) ZeO.nd rfl (Or.inl rfl))
   (Zac (Zau (i:=7) ZeO.nd rfl (Or.inl rfl) (Zan (Zjf T) (hr.mono (by decide)) rfl T.m_LN T.f_LN.kp T.b_LN .nil Zay (Zaa (pv 0) (Zaa (Zat Za6 Zag (pv 6)) Zab))))
   (Zac (ZaR (PW.pt (ZjZ (Za5 (pv 3)) (ZhM (Zaw (Zcr (K:=K) rfl) (pv 5) (ZbV (Zaa Zag (Zaa (ZhU ZeI Zag) Zab))) rfl)))) (Zac (Zau (i:=7) ZeO.nd rfl (Or.inl rfl) (pv 5))
   (Zaf (Zau (i:=5) ZeO.nd rfl (Or.inl rfl) (Zat Za1 (pv 5) (Zai (Zas (K:=K) rfl) rfl T.z_len ZaL (Zaa (pv 1) Zab)))))) Zav)
   (Zaf (Zau (i:=4) ZeO.nd rfl (Or.inl rfl) (Zat ZaP (pv 4) (Zbg ZcH (pv 1) (Zat ZaQ (pv 7) (Zai (Zas (K:=K) rfl) rfl T.z_len ZaL (Zaa (pv 1) Zab))) (fun _ _=>rfl))))))))
   (Zaf (Zaq (pv 4)))))),?_⟩
  walk_at "rd"
  refine⟨n,rfl,by omega,by omega,ForRun.range (fun i σ H'=>Same H H'∧∃(f:List Nat) (le:Int) (v6 v7:Option V),σ=[some (.int c),some (tx m),some (.int n),some (.bl d),some (tx f),some (.int le),v6,v7]∧f.length=i∧∀x∈f,x∈m) ⟨Same.refl _,[],c,none,none,rfl,rfl,fun x hx=>by cases hx⟩ ?_ ?_⟩
  ·rintro i σ H1 hi ⟨s1,f,le,v6,v7,rfl,hf,hfm⟩
   have hM:m.length≤1000:=by omega
   have sz:m.length≤sizeLine:=YAP hM (by rw[sizeLine_eq];decide)
   have sf:f.length+1≤sizeLine:=by rw[sizeLine_eq];omega
   have pm:(0:Int)<m.length:=by omega
   have cd:CDiv le m.length:=⟨pm,by omega⟩
   have at_:∀x:Int,∃v,atI m (x % m.length)=some v∧v∈m:=fun x=>ZgK (YBu _ (by omega)) (YBm _ pm)
   have mem:∀ {v:Nat},v∈m→∀x∈f++[v],x∈m:=fun hv x hx=>(YAe.mp hx).elim (hfm x) fun h=>by rw[YAS.mp h];exact hv
   walk_at "rd"
   refine⟨_,_,rfl,fun r hr=>?_⟩
   walk_at "rd"
   obtain⟨c1,hc1,k1⟩:=at_ r
   obtain⟨c2,hc2,k2⟩:=at_ le
   refine ite2 (fun h=>⟨by rw[sizeLine_eq];decide,NewT.of fun p2 H2 s2 n2 l2=>⟨p2,_,rfl,.inr (.mk l2),rfl,rfl,_,rfl,ite2 (fun h=>?_) (fun h=>?_)⟩⟩) (fun h=>iteF ?_)
   ·exact⟨_,_,rfl,Zbl hM,cd,_,_,rfl,Zbl hM,pm,m,_,c2,rfl,rfl,sz,hc2,sf,s1.trans s2,_,_,_,_,rfl,by simp[hf],mem k2⟩
   ·exact⟨_,_,rfl,Zbl hM,pm,m,_,c1,rfl,rfl,sz,hc1,sf,s1.trans s2,_,_,_,_,rfl,by simp[hf],mem k1⟩
   ·exact⟨_,_,rfl,Zbl hM,pm,m,_,c1,rfl,rfl,sz,hc1,sf,s1,_,_,_,_,rfl,by simp[hf],mem k1⟩
  ·rintro σ H1 ⟨s1,f,le,v6,v7,rfl,hf,hfm⟩
   walk_at "rd"
   exact q f H1 hf hfm s1
theorem ZkK:FnScope ["self","text","came","went","gone","kept"] ["self","text","came","went"] (Zah s_KE):=by walk_at "sc"
theorem ZmN (T:TL K mg base a tb):FnOk P w K mg base CX0 2 a.g_KE a.e_KE ["self","text","came","went"] (Zom K a):=by
 refine T.fm_KE.ok ZkK (fun vs H Q E h=>?_) (fun cdv A outer s H vs Q E hr h=>?_)
 ·obtain⟨_,_,_,_,_,_,_,_,_,_,_,_,_,_,rfl,_⟩:=h;rfl
 ·have hu64:=hr.units
  have hu1:=ZaM hr
  obtain⟨p,la,da,c,g,l,l2,m,old,new,ys,zs,rc,rg,rfl,hp,hla,hc,rwc,hg,rwg,ho,hn,nd,mc,mg_,lo,lc,lg,wo,wn,tk,q⟩:=h
  refine⟨_,(Zaj (Zac (Zau (i:=4) ZkK.nd rfl (Or.inr rfl) (ZbK (N:=["told"]) (ix:=[none]) rfl (Zbc rfl) rfl (Zbj (K:=K) rfl (pv 3)) (fun _ _ _ _=>(ZaF (i:=0) (show (["told"]:List Str).Nodup from by decide +kernel) rfl (Or.inl rfl) (Or.inr rfl))) (fun _ _ _ _=>Zcn) (fun _ _ _ _=>(Zbg (Zen (K:=K) rfl) (pv 0) Zag (fun _ _=>rfl)))))
   (Zaj (Zac (ZkT (i:=5) (N:=["word","gone"]) (ix:=[none,some 4]) rfl ZkK.nd rfl rfl rfl (Zbc rfl) rfl (Zbj (K:=K) rfl (ZaK (K:=K) rfl (pv 0) rfl)) (fun _ _ _ _=>(ZaF (i:=0) (show (["word","gone"]:List Str).Nodup from by decide +kernel) rfl (Or.inl rfl) (Or.inr rfl))) (fun _ _ _ _=>(Zcm (Zaw (Zcr (K:=K) rfl) (pv 0) (pv 1) rfl))) (fun _ _ _ _=>(pv 0)))
   (Zaj (Zac (ZdU (pv 0) (Zan (Zk3 T) (hr.mono (by decide)) rfl T.m_K1 T.f_K1.kp T.b_K1 .nil Zay (Zaa (Zat ZeY (pv 5) (ZbK (N:=["told"]) (ix:=[none]) rfl (Zbc rfl) rfl (Zbj (K:=K) rfl (pv 2)) (fun _ _ _ _=>(ZaF (i:=0) (show (["told"]:List Str).Nodup from by decide +kernel) rfl (Or.inl rfl) (Or.inr rfl))) (fun _ _ _ _=>Zcn) (fun _ _ _ _=>(Zbg (Zen (K:=K) rfl) (pv 0) Zag (fun _ _=>rfl))))) Zab)) rfl)
   (Zaj (Zac (ZdU (pv 0) (pv 1) rfl)
   (Zaf (Zaq (ZbV (Zaa (pv 2) (Zaa (pv 3) Zab))))))))))))),?_⟩
  have sz:∀k:Nat,k≤30000→k≤sizeLine:=fun k h=>YAP h (by rw[sizeLine_eq];decide)
  obtain⟨dx,f⟩:=hp
  walk_at "rd"
  refine Zam ?_
  walk_at "rd"
  have zl:=rwg.1
  have yl:=rwc.1
  refine⟨g,rfl,⟨_,.mk hg⟩,CompRun.listL (xs:=zs) (fun _=>true) (fun i=>tx ((rg.map (·.1)).getD i [])) (by omega) (.mk hg) (fun i H' Q' _ _ q=>q H' (Same.refl _)) ?_ ?_⟩
  ·intro i H1 Q1 hi _ s1 q1
   obtain⟨t,u,e1,e2⟩:=Zgi rwg hi
   rw[e1]
   walk_at "rd"
   exact⟨t,_,_,_,rfl,rfl,.mk (s1 _ _ e2),atI0,q1 H1 (Same.refl _)⟩
  ·intro pg H1 s1 n1 l1
   rw[ZiE zl]at l1
   refine Zam ?_
   walk_at "rd"
   refine⟨p,_,dx,_,_,rfl,s1 _ _ f,T.cl_LG,T.n_Strip_own_lacking,Zi4,la,rfl,⟨_,.mk (s1 _ _ hla)⟩,CompRun.listL (xs:=old.map tx) (fun i=>!decide (old.getD i []∈rg.map (·.1))) (fun i=>tx (old.getD i [])) (by rw[YAE];omega) (.mk (s1 _ _ hla)) ?_ ?_ ?_⟩
   ·intro i H2 Q2 hi s2 q2
    rw[YAE]at hi
    rw[Zdz hi]
    walk_at "rd"
    refine⟨pg,_,rfl,.inl (.mk (s2 _ _ l1)),rfl,Zes _,_,rfl,?_⟩
    rw[YAO rfl,Znn]
    exact q2 H2 (Same.refl _)
   ·intro i H2 Q2 hi _ s2 q2
    rw[YAE]at hi
    rw[Zdz hi]
    walk_at "rd"
    exact q2 H2 (Same.refl _)
   ·intro pk H2 s2 n2 l2k
    have eh:((List.range (old.map tx).length).filter fun i=>!decide (old.getD i []∈rg.map (·.1))).map (fun i=>tx (old.getD i []))=(old.filter fun v=>!decide (v∈rg.map (·.1))).map tx:=by
     rw[YAE,←ZcL (fun v=>!decide (v∈rg.map (·.1))) [] old,YBZ]
     rfl
    have e2:(old.filter fun v=>!decide (v∈rg.map (·.1)))=old.filter fun v=>decide (v∉rg.map (·.1)):=by
     congr 1
     funext v
     rw[decide_not]
    rw[eh,e2]at l2k
    have fl:=YAt (fun v=>decide (v∉rg.map (·.1))) old
    generalize hk:old.filter (fun v=>decide (v∉rg.map (·.1)))=kept at l2k fl
    have s02:=s1.trans s2
    refine Zam ?_
    walk_at "rd"
    refine⟨c,rfl,⟨_,.mk (s02 _ _ hc)⟩,CompRun.listL (xs:=ys) (fun _=>true) (fun i=>tx ((rc.map (·.1)).getD i [])) (by omega) (.mk (s02 _ _ hc)) (fun i H' Q' _ _ q=>q H' (Same.refl _)) ?_ ?_⟩
    ·intro i H3 Q3 hi _ s3 q3
     obtain⟨t,u,e1,e2⟩:=Zgi rwc hi
     rw[e1]
     walk_at "rd"
     exact⟨t,_,_,_,rfl,rfl,.mk ((s02.trans s3) _ _ e2),atI0,q3 H3 (Same.refl _)⟩
    ·intro pc H3 s3 n3 l3
     rw[ZiE yl]at l3
     rw[Zml]
     refine⟨_,_,s3 _ _ l2k,l3,by rw[YAE,YAE,YAE];exact sz _ (by omega),NewL.of fun pw H4 s4 n4 l4=>?_⟩
     have s04:Same H H4:=s02.trans (s3.trans s4)
     rw[←YCM]at l4
     refine⟨pw,_,rfl,l4,fun w hw=>?_,tk.same s04,fun ws r H5 pm pw5 sl tk5 nr lr=>?_⟩
     ·rcases YAe.mp hw with h | h
      ·rw[←hk]at h
       exact wo w (YCL.mp h).1
      ·exact wn w ((mc w).mp h).1
     ·rw[←hk]at pm
      have en:=Zlf ho hn mc nd mg_ pm pw5
      rw[en]at lr
      have f5:=sl _ _ (s04 _ _ f) rfl
      refine⟨p,_,dx,_,rfl,f5,T.cl_LG,T.n_Strip_own_lacking,(by show 4<1000;decide),?_⟩
      rw[show putF (Str.ofString "own_lacking") (.ref r) (sF l m la da)=sF l m r da from ZkN]
      refine Zam ?_
      walk_at "rd"
      refine⟨p,_,dx,_,rfl,Zad,T.cl_LG,T.n_Strip_own_text,(by show 4<1000;decide),sz _ (by decide),NewT.of fun t H7 s7 n7 l7=>?_⟩
      rw[show putF (Str.ofString "own_text") (tx l2) (sF l m r da)=sF l2 m r da from ZkM]at s7
      have nrp:p≠r:=Zak (s04 _ _ f) nr
      refine q t r H7 ?_ ⟨dx,s7 _ _ Zad⟩ ((Nw.of nr).same s04) (s7 _ _ (by rw[Zae (YAx nrp),Zae (YAx nrp)];exact lr)) l7 ?_
      ·exact s04.chg.trans (sl.chg.trans ((Chg.upd (by simp)).trans ((Chg.upd (by simp)).trans s7.chg)))
      ·exact((tk5.upd f5 rfl rfl).upd Zad rfl rfl).same s7
theorem Zoy:FnScope ["thing","kinds"] ["thing","kinds"] (Zah s_KY):=by walk_at "sc"
theorem Zpc (T:TL K mg base a tb):FnOk P w K mg base CX0 3 a.f_KY a.d_KY ["thing","kinds"] (Zn7 K a):=by
 refine T.f_KY.ok Zoy (fun vs H Q E h=>?_) (fun cdv A outer s H vs Q E hr h=>?_)
 ·obtain⟨_,_,rfl,_⟩:=h;rfl
 ·have hu64:=hr.units
  have hu1:=ZaM hr
  obtain⟨v,m,rfl,q⟩:=h
  refine⟨_,(Zaf (Zaq (ZbN (Zan (ZmP T) (hr.mono (by decide)) rfl T.m_K4 T.f_K4.kp T.b_K4 .nil Zay (Zaa (pv 0) (Zaa (pv 1) (Zaa Zag Zab)))) (ZcT (ZaX (ZaH (K:=K) rfl hu64) (Zai (Zas (K:=K) rfl) rfl T.z_len ZaL (Zaa (pv 0) Zab)) Zag (Zax _)))))),?_⟩
  walk_at "rd"
  rcases q with⟨l,rfl,hl,q⟩|⟨o,q⟩
  ·refine⟨_,m,1,rfl,.inl ⟨l,rfl,hl,fun H1 s1=>⟨_,rfl,ite2 (fun h=>?_) (fun h=>?_)⟩⟩⟩
   ·refine⟨_,_,rfl,Zbl hl,.inl ⟨rfl,?_⟩⟩
    have e:=q H1 s1
    unfold isl at e
    rw[h,YCC]at e
    rw[YAJ YAC]
    simpa using e
   ·have e:=q H1 s1
    unfold isl at e
    rw[YCN.mpr h,YBc]at e
    exact e
  ·exact⟨_,m,1,rfl,.inr ⟨o,_,rfl,iteF q⟩⟩
theorem ZoD:FnScope ["thing"] ["thing"] (Zah s_KS):=by walk_at "sc"
theorem ZmF (T:TL K mg base a tb):FnOk P w K mg base (CXr P w) 3 a.f_KS a.d_KS ["thing"] (Zob K a):=by
 refine T.f_KS.okX ZoD (fun vs H Q E h=>?_) (fun cdv A outer s H vs Q E hr h=>?_)
 ·obtain⟨_,rfl,_⟩:=h;rfl
 ·have hu64:=hr.units
  have hu1:=ZaM hr
  obtain⟨v,rfl,q⟩:=h
  refine⟨_,(Zaf (ZaR (Zbq (Za5 (Zan (Zpj T) (hr.mono (by decide)) rfl T.m_K2 T.f_K2.kp T.b_K2 .nil Zay (Zaa (pv 0) Zab)))) (Zaf (Zb2 ZbF rfl (Zco T.x_K3 T.i_K3 rfl T.m_K3 (Zaa (ZaO (l:=[107,105,110,100,115,32,97,114,101,32,111,110,101,32,116,111,32,102,111,117,114,32,117,110,108,105,107,101,32,115,109,97,108,108,32,108,101,116,116,101,114,115,44,32,114,105,115,105,110,103]) (by decide +kernel)) Zab)))) Zav)),?_⟩
  walk_at "rd"
  have up:∀H1,Same H H1→XNk a E H→(1≤1000∧Mk0 a.c_K3 H1 fun v H1=>∃e C d,v=.ref e∧H1 e=some (xo e C d)∧Xm K C∧E (.ref C) (some e) (upd H1 e (xr e C d))):=fun H1 s1 z=>
   ⟨by decide,fun e he=>⟨e,_,none,rfl,Zad,T.x_K3,z e _ (s1.trans (ZbR he)) (.bare Zad)⟩⟩
  rcases q with⟨l,rfl,hl,hk,q⟩|⟨⟨l,rfl,hl,hk⟩ | o,q⟩
  ·exact⟨_,rfl,.inl ⟨l,rfl,hl,fun H2 s2=>⟨_,rfl,by rw[hk];exact iteF (q H2 s2)⟩⟩⟩
  ·exact⟨_,rfl,.inl ⟨l,rfl,hl,fun H2 s2=>⟨_,rfl,by rw[hk];exact iteT (up H2 s2 q)⟩⟩⟩
  ·exact⟨_,rfl,.inr ⟨o,_,rfl,iteT (up H (Same.refl _) q)⟩⟩
theorem Zox:FnScope ["thing","kinds","most"] ["thing","kinds","most"] (Zah s_KZ):=by walk_at "sc"
theorem Zk1 (T:TL K mg base a tb):FnOk P w K mg base (CXr P w) 3 a.f_KZ a.d_KZ ["thing","kinds","most"] (Zn6 K a):=by
 refine T.f_KZ.okX Zox (fun vs H Q E h=>?_) (fun cdv A outer s H vs Q E hr h=>?_)
 ·obtain⟨_,_,_,rfl,_⟩:=h;rfl
 ·have hu64:=hr.units
  have hu1:=ZaM hr
  obtain⟨v,m,most,rfl,q⟩:=h
  refine⟨_,(Zaf (ZaR (Zbq (Za5 (Zan (ZmP T) (hr.mono (by decide)) rfl T.m_K4 T.f_K4.kp T.b_K4 .nil Zay (Zaa (pv 0) (Zaa (pv 1) (Zaa (pv 2) Zab)))))) (Zaf (Zb2 ZbF rfl (Zgm T.x_K8 T.i_K8 T.fn_K8 (Zb9 T) (hr.mono (by decide)) T.b_K8 Zay rfl T.m_K8 (Zaa (pv 0) Zab)))) Zav)),?_⟩
  walk_at "rd"
  have up:∀H1,Same H H1→XNw a E H v→(1≤1000∧MkI (Zge K a.c_K8 1 (fs1 (Str.ofString "word"))) E0 a.c_K8 [v] H1 fun v H1=>∃e C d,v=.ref e∧H1 e=some (xo e C d)∧Xm K C∧E (.ref C) (some e) (upd H1 e (xr e C d))):=fun H1 s1 z=>
   ⟨by decide,MkI.of rfl fun e H2 s2 n2 x2=>by
    obtain⟨d,hd,hx⟩:=ZeQ x2
    exact⟨e,_,d,rfl,hd,T.x_K8,z e _ (s1.trans (same_upd3 s2 n2)) hx⟩⟩
  rcases q with⟨l,rfl,hl,hk,q⟩|⟨⟨l,rfl,hl,hk⟩ | o,q⟩
  ·exact⟨_,_,_,rfl,.inl ⟨l,rfl,hl,fun H2 s2=>⟨_,rfl,by rw[hk];exact iteF (q H2 s2)⟩⟩⟩
  ·exact⟨_,_,_,rfl,.inl ⟨l,rfl,hl,fun H2 s2=>⟨_,rfl,by rw[hk];exact iteT (up H2 s2 q)⟩⟩⟩
  ·exact⟨_,_,_,rfl,.inr ⟨o,_,rfl,iteT (up H (Same.refl _) q)⟩⟩
theorem Zl7:FnScope ["lesser","longer","reason","word"] ["lesser","longer","reason"] (Zah s_LA):=by walk_at "sc"
theorem ZmB (T:TL K mg base a tb):FnOk P w K mg base CX0 3 a.f_LA a.d_LA ["lesser","longer","reason"] (Zn5 K a):=by
 refine T.f_LA.ok Zl7 (fun vs H Q E h=>?_) (fun cdv A outer s H vs Q E hr h=>?_)
 ·obtain⟨_,_,_,_,rfl,_⟩:=h;rfl
 ·have hu64:=hr.units
  have hu1:=ZaM hr
  obtain⟨s_,L,rs,m,rfl,hL,ex,hm,hrise,tk,q⟩:=h
  refine⟨_,(Zac (Zau (i:=3) Zl7.nd rfl (Or.inl rfl) (Zbg (Zbm (K:=K) rfl) (Zan (Zmy T) (hr.mono (by decide)) rfl T.m_LH T.f_LH.kp T.b_LH .nil Zay (Zaa (pv 0) (Zaa (pv 1) Zab))) Zag (fun _ _=>rfl)))
   (Zaf (Zaq (Zbo (Zaa (ZbV (Zaa (pv 3) (Zaa (ZbV (Zaa (pv 2) (Zaa (Zj1 (K:=K) rfl YCz PySem.F.slot_str_find PySem.F.type_str_find Zgw (pv 1) (Zaa (pv 3) Zab)) Zab))) Zab))) Zab))))),?_⟩
  have sz:∀k:Nat,k≤9000→k≤sizeLine:=fun k h=>YAP h (by rw[sizeLine_eq];decide)
  walk_at "rd"
  refine⟨s_,L,rfl,hL,ex,tk,fun F r H1 pw mF sl tk1 nr lr=>?_⟩
  walk_at "rd?"
  obtain⟨w0,F',rfl⟩:∃w0 F',F=w0::F':=by
   have:L∈F:=(mF L).mpr ⟨Inf.refl L,fun z=>by have:=z.len;have:=ex.len;omega⟩
   cases F with
   | nil=>cases this
   | cons x F'=>exact⟨x,F',rfl⟩
  have f0:=(mF w0).mp YAa
  have hmn:∀w,Frs s_ L w→¬BefW w w0:=fun w hw hb=>by
   rcases YAK.mp ((mF w).mpr hw) with rfl | h
   ·exact Zda hb
   ·exact Zfv hb ((YBK.mp pw).1 w h)
  have eF:=ZjB ex hm hrise f0 hmn
  refine⟨r,_,_,_,rfl,rfl,.mk lr,atI0,rfl,L,w0,rfl,rfl,fun k hk=>⟨sz _ (by decide),NewT.of fun t1 H2 s2 n2 l2=>⟨sz _ (by decide),NewT.of fun t2 H3 s3 n3 l3=>⟨sz _ (by decide),NewL.of fun p4 H4 s4 n4 l4=>?_⟩⟩⟩⟩
  have ek:k=((fpl L w0:Nat):Int):=by
   rcases hk with⟨_,no⟩|⟨i,rfl,at_,mn⟩
   ·exact absurd f0.1 no
   ·rw[Zke at_ mn]
  have s14:=s2.trans (s3.trans s4)
  refine q [.ref t2] p4 H4 (sl.trans s14.l) (tk1.same s14) ((((Nw.of n4).same s3).same s2).l sl) l4 ?_
  subst ek
  unfold ZdM
  rw[eF]
  refine⟨rfl,fun i y hy=>?_⟩
  match i,hy with
  | 0,hy=>
   cases hy
   exact⟨_,rfl,t2,t1,rfl,s4 _ _ l3,(s3.trans s4) _ _ l2⟩
theorem ZgV:FnScope ["lesser","longer","kinds","reason","found","shorter","told","letter","word"] ["lesser","longer","kinds","reason"] (Zah s_LD):=by walk_at "sc"
theorem ZmA (T:TL K mg base a tb):FnOk P w K mg base CX0 3 a.f_LD a.d_LD ["lesser","longer","kinds","reason"] (Zn2 K a):=by
 refine T.f_LD.ok ZgV (fun vs H Q E h=>?_) (fun cdv A outer s H vs Q E hr h=>?_)
 ·obtain⟨_,_,_,_,rfl,_⟩:=h;rfl
 ·have hu64:=hr.units
  have hu1:=ZaM hr
  obtain⟨s_,L,rs,m,rfl,hL,ex,hm,hrise,m4,tk,q⟩:=h
  refine⟨_,(Zac (Zau (i:=4) ZgV.nd rfl (Or.inr rfl) Zgp)
   (Zaj (Zac (ZbA YBN rfl (Zbj (K:=K) rfl (Zan (Zmy T) (hr.mono (by decide)) rfl T.m_LH T.f_LH.kp T.b_LH .nil Zay (Zaa (pv 0) (Zaa (pv 1) Zab)))) (ZaF (i:=5) ZgV.nd rfl (Or.inl rfl))
   (Zac (Zau (i:=6) ZgV.nd rfl (Or.inl rfl) (ZbV (Zaa (pv 3) (Zaa (pv 5) (Zaa (Zj1 (K:=K) rfl YCz PySem.F.slot_str_find PySem.F.type_str_find Zgw (pv 1) (Zaa (pv 5) Zab)) Zab)))))
   (Zaf (ZbA YBN rfl (Zdm (pv 2)) (ZaF (i:=7) ZgV.nd rfl (Or.inl rfl))
   (Zaf (ZbA YBN rfl (Zbj (K:=K) rfl (Zbo (Zaa (Zat ZaP (pv 5) (pv 7)) (Zaa (Zat ZaP (pv 7) (pv 5)) Zab)))) (ZaF (i:=8) ZgV.nd rfl (Or.inl rfl))
   (Zaf (ZaR (Za5 (Zan (Zo9 T) (hr.mono (by decide)) rfl T.m_LI T.f_LI.kp T.b_LI .nil Zay (Zaa (pv 1) (Zaa (pv 8) Zab)))) (Zaj (Zaf (ZkS hu1 (pv 4) (pv 8) (pv 6) rfl))) Zav))))))))
   (Zaf (Zaq (ZbK (N:=["word","found"]) (ix:=[none,some 4]) rfl (Zbc rfl) rfl (Zbj (K:=K) rfl (Zan (Zk3 T) (hr.mono (by decide)) rfl T.m_K1 T.f_K1.kp T.b_K1 .nil Zay (Zaa (ZbC (Zhk rfl) rfl T.z_list Zbw (Zaa (pv 4) Zab)) Zab))) (fun _ _ _ _=>(ZaF (i:=0) (show (["word","found"]:List Str).Nodup from by decide +kernel) rfl (Or.inl rfl) (Or.inr rfl))) (fun _ _ _ _=>Zcn) (fun _ _ _ _=>(ZbV (Zaa (pv 0) (Zaa (ZkX hu1 (pv 1) (pv 0) (fun _ _=>rfl)) Zab)))))))))),?_⟩
  have sz:∀k:Nat,k≤9000→k≤sizeLine:=fun k h=>YAP h (by rw[sizeLine_eq];decide)
  walk_at "rd"
  intro pd hpd
  refine Zam ?_
  walk_at "rd"
  have s0:Same H (upd H pd (.dK [])):=Zaz hpd
  have h0:upd H pd (.dK []) pd=some (.dK []):=Zad
  generalize upd H pd (.dK [])=H0 at s0 h0
  refine⟨s_,L,rfl,hL,ex,tk.same s0,fun F pF H1 pw mF sl tk1 nF lF=>?_⟩
  have d1:=sl _ _ h0 rfl
  have nFd:pd≠pF:=fun z=>by rw[z,lF]at d1;cases d1
  have FL:F.length≤82:=by
   have nd:F.Nodup:=Zcs pw
   have hs:∀w∈F,w∈ZaY L L.length:=fun w hw=>Ze4.mpr ((Zir ex).mp ((mF w).mp hw)).1
   have:=Ze1 F _ nd hs
   rw[ZcA]at this
   omega
  refine⟨pF,rfl,⟨_,.mk lF⟩,ForRun.list (xs:=F.map tx) (fun i σ H'=>∃v5 v6 v7 v8 kvs ws,σ=[some (tx s_),some (tx L),some (tx m),some (tx rs),some (.ref pd),v5,v6,v7,v8]∧(∀b o,H1 b=some o→b≠pd→H' b=some o)∧H' pd=some (.dK kvs)∧DI H' s_ L rs (fun w=>∃sh∈F.take i,∃c∈m,w=sh++[c]∨w=c::sh) kvs ws∧kvs.length≤i*8) ⟨_,_,_,_,[],[],rfl,fun b o e _=>e,d1,⟨rfl,by simp,fun w=>by simp,by simp⟩,by simp⟩ (fun i σ H' _ ⟨_,_,_,_,_,_,_,k',_⟩=>.mk (k' _ _ lF (YAx nFd))) ?_ ?_⟩
  ·rintro i x σ H2 hx ⟨v5,v6,v7,v8,kvs,ws,rfl,k2,d2,i2,n2⟩
   obtain⟨sh,hsh,rfl⟩:∃sh,F[i]?=some sh∧x=tx sh:=by
    rw[YAo]at hx
    cases e:F[i]? with
    | none=>rw[e]at hx;cases hx
    | some sh=>rw[e]at hx;exact⟨sh,rfl,(Option.some.inj hx).symm⟩
   have fsh:=(mF sh).mp (YAr hsh)
   have shl:=fsh.1.len
   have hi:i<F.length:=(YAc.mp hsh).1
   walk_at "rd"
   refine⟨rfl,L,sh,rfl,rfl,fun r hr=>⟨sz _ (by decide),NewT.of fun t1 H3 s3 n3 l3=>?_⟩⟩
   have er:r=((fpl L sh:Nat):Int):=by
    rcases hr with⟨_,no⟩|⟨i,rfl,at_,mn⟩
    ·exact absurd fsh.1 no
    ·rw[Zke at_ mn]
   subst er
   have d3:=s3 _ _ d2
   refine⟨m,rfl,ForRun.text (fun j σ H'=>∃v7 v8 kvs ws,σ=[some (tx s_),some (tx L),some (tx m),some (tx rs),some (.ref pd),some (tx sh),some (.ref t1),v7,v8]∧(∀b o,H1 b=some o→b≠pd→H' b=some o)∧H' t1=some (.tup [tx rs,tx sh,.int ((fpl L sh:Nat):Int)])∧H' pd=some (.dK kvs)∧DI H' s_ L rs (fun w=>(∃sh∈F.take i,∃c∈m,w=sh++[c]∨w=c::sh)∨∃c∈m.take j,w=sh++[c]∨w=c::sh) kvs ws∧kvs.length≤i*8+2*j) ⟨_,_,_,_,rfl,fun b o e nb=>s3 _ _ (k2 b o e nb),l3,d3,i2.grow (fun b us e=>s3 _ _ e) (fun w _=>by simp),by omega⟩ ?_ ?_⟩
   ·rintro j c σ H4 hc ⟨v7,v8,kvs,ws,rfl,k4,t4,d4,i4,n4⟩
    have hcm:c∈m:=YAr hc
    have hj:j<m.length:=(YAc.mp hc).1
    walk_at "rd"
    refine⟨sz _ (by omega),sz _ (by omega),sz _ (by decide),NewL.of fun pl H5 s5 n5 l5=>?_⟩
    have nl:pd≠pl:=Zak d4 n5
    refine⟨pl,rfl,⟨_,.mk l5⟩,ForRun.list (xs:=[tx (sh++[c]),tx (c::sh)]) (fun k σ H'=>∃v8 kvs ws,σ=[some (tx s_),some (tx L),some (tx m),some (tx rs),some (.ref pd),some (tx sh),some (.ref t1),some (tx [c]),v8]∧(∀b o,H1 b=some o→b≠pd→H' b=some o)∧H' t1=some (.tup [tx rs,tx sh,.int ((fpl L sh:Nat):Int)])∧H' pl=some (.lst [tx (sh++[c]),tx (c::sh)])∧H' pd=some (.dK kvs)∧DI H' s_ L rs (fun w=>((∃sh∈F.take i,∃c∈m,w=sh++[c]∨w=c::sh)∨∃c∈m.take j,w=sh++[c]∨w=c::sh)∨w∈[sh++[c],c::sh].take k) kvs ws∧kvs.length≤i*8+2*j+k) ⟨_,_,_,rfl,fun b o e nb=>s5 _ _ (k4 b o e nb),s5 _ _ t4,l5,s5 _ _ d4,i4.grow (fun b us e=>s5 _ _ e) (fun w _=>by simp),by omega⟩ (fun k σ H' _ ⟨_,_,_,_,_,_,l',_⟩=>.mk l') ?_ ?_⟩
    ·rintro k y σ H6 hy ⟨v8,kvs,ws,rfl,k6,t6,l6,d6,i6,n6⟩
     obtain⟨z,hz,rfl,ez⟩:∃z,[sh++[c],c::sh][k]?=some z∧y=tx z∧(z=sh++[c]∨z=c::sh):=by
      match k,hy with
      | 0,hy=>cases hy;exact⟨_,rfl,rfl,.inl rfl⟩
      | 1,hy=>cases hy;exact⟨_,rfl,rfl,.inr rfl⟩
     have zl:z.length=sh.length+1:=by rcases ez with rfl | rfl<;>simp
     have zne:z≠[]:=fun e=>by rw[e]at zl;simp at zl
     have hk:k<2:=(YAc.mp hz).1
     walk_at "rd"
     refine⟨L,z,rfl,by omega,by omega,_,rfl,?_⟩
     have tkS:∀w,w∈[sh++[c],c::sh].take (k+1)↔(w∈[sh++[c],c::sh].take k∨w=z):=fun w=>by
      rw[ZbP hz,YAe,YAS]
     cases hb:Zif L z with
     | false=>
      have nm:¬Miss L z:=fun h=>by rw[(Zfc zne).mpr h]at hb;cases hb
      refine iteF ⟨_,kvs,ws,rfl,k6,t6,l6,d6,i6.grow (fun _ _ e=>e) (fun w mw=>?_),by omega⟩
      rw[tkS]
      constructor
      ·rintro (h | h)
       ·exact .inl h
       ·exact .inr (.inl h)
      ·rintro (h | h | h)
       ·exact .inl h
       ·exact .inr h
       ·exact absurd (h▸mw) nm
     | true=>
      have mz:=(Zfc zne).mp hb
      refine iteT ?_
      refine Zam ?_
      walk_at "rd"
      have es:shOf s_ z=sh:=Zms ex fsh ez mz
      obtain⟨ws',i7⟩:=i6.put (x:=z) (b:=t1) mz (by rw[es];exact t6)
      have np:pd≠pl:=fun e=>by rw[e,l6]at d6;cases d6
      have nt:t1≠pd:=fun e=>by rw[e,d6]at t6;cases t6
      have lp:=ZbL kvs (kTx z) (.ref t1)
      refine⟨pd,_,rfl,DPut.k (k:=kTx z) d6 (YAj (show _<9000 by omega) (sz 9000 (YAQ _))),_,putK kvs (kTx z) (.ref t1),ws',rfl,fun b o e nb=>by rw[Zae nb];exact k6 b o e nb,by rw[Zae nt];exact t6,by rw[Zae (YAx np)];exact l6,Zad,i7.grow (fun b us e=>?_) (fun w _=>?_),by omega⟩
      ·rw[Zae (fun e2=>by rw[e2,d6]at e;cases e)];exact e
      ·rw[tkS]
       constructor
       ·rintro ((h | h) | h)
        ·exact .inl h
        ·exact .inr (.inl h)
        ·exact .inr (.inr h)
       ·rintro (h | h | h)
        ·exact .inl (.inl h)
        ·exact .inl (.inr h)
        ·exact .inr h
    ·rintro σ H6 ⟨v8,kvs,ws,rfl,k6,t6,l6,d6,i6,n6⟩
     refine⟨_,_,kvs,ws,rfl,k6,t6,d6,i6.grow (fun _ _ e=>e) (fun w _=>?_),by simp at n6;omega⟩
     rw[ZbP hc]
     simp only[YAe,YAS]
     constructor
     ·rintro ((h | ⟨d,hd,h⟩) | h)
      ·exact .inl h
      ·exact .inr ⟨d,.inl hd,h⟩
      ·exact .inr ⟨c,.inr rfl,by simpa using h⟩
     ·rintro (h | ⟨d,hd | rfl,h⟩)
      ·exact .inl (.inl h)
      ·exact .inl (.inr ⟨d,hd,h⟩)
      ·exact .inr (by simpa using h)
   ·rintro σ H4 ⟨v7,v8,kvs,ws,rfl,k4,t4,d4,i4,n4⟩
    refine⟨_,_,_,_,kvs,ws,rfl,k4,d4,i4.grow (fun _ _ e=>e) (fun w _=>?_),by omega⟩
    rw[YCp,ZbP hsh]
    simp only[YAe,YAS]
    constructor
    ·rintro (⟨s',hs,h⟩ | h)
     ·exact⟨s',.inl hs,h⟩
     ·exact⟨sh,.inr rfl,h⟩
    ·rintro⟨s',hs | rfl,h⟩
     ·exact .inl ⟨s',hs,h⟩
     ·exact .inr h
  ·rintro σ H2 ⟨v5,v6,v7,v8,kvs,ws,rfl,k2,d2,i2,n2⟩
   walk_at "rd"
   rw[YAE,YCp]at i2
   have e3:kvs.map (fun p=>kV p.1)=ws.map tx:=by
    have:kvs.map (fun p=>kV p.1)=(kvs.map (·.1)).map kV:=by rw[YBZ];rfl
    rw[this,i2.keys,YBZ]
    rfl
   refine⟨pd,kvs,rfl,.inl d2,NewL.of fun p3 H3 s3 n3 l3=>?_⟩
   rw[e3]at l3
   have mws:∀w,w∈ws↔w∈opnL s_ L m:=fun w=>by
    rw[i2.mem,Zei,←Zk0 ex hm]
    constructor
    ·rintro⟨ms,sh,h1,c,h2,h3⟩;exact⟨sh,c,(mF sh).mp h1,h2,h3,ms⟩
    ·rintro⟨sh,c,h1,h2,h3,ms⟩;exact⟨ms,sh,(mF sh).mpr h1,c,h2,h3⟩
   have tk2:=ZiR tk1 k2 d1 rfl rfl
   refine⟨p3,ws,rfl,l3,fun w hw=>?_,tk2.same s3,fun ws' r H4 pm pw4 sl4 tk4 nr lr=>?_⟩
   ·have:=((i2.mem w).mp hw).1.init.len
    rw[YBI]at this
    omega
   ·have ew:ws'=opnL s_ L m:=Zbx (Zcg pm pw4 i2.nd) ((ZaT hrise).filter _) fun w=>by rw[pm.mem_iff,mws]
    subst ew
    have d4:=sl4 _ _ (s3 _ _ d2) rfl
    have ol:(opnL s_ L m).length≤9000:=by
     have:=pm.length_eq
     have e5:=congrArg List.length e3
     rw[YAE,YAE]at e5
     rw[YAE]at n2
     omega
    refine⟨r,rfl,⟨_,.mk lr⟩,CompRun.tups (xs:=(opnL s_ L m).map tx) (fun i vs=>∃w b,(opnL s_ L m)[i]?=some w∧vs=[tx w,.ref b]∧valV kvs (kTx w)=some (.ref b)) (by rw[YAE];omega) (.mk lr) ?_ ?_⟩
    ·intro i H5 Q5 hi s5 q5
     rw[YAE]at hi
     rw[Zdz hi]
     have hw:(opnL s_ L m)[i]?=some ((opnL s_ L m).getD i []):=by rw[YAU,YAM hi];rfl
     obtain⟨b,hv,_⟩:=i2.val _ ((mws _).mpr (YAr hw))
     walk_at "rd"
     have dg:=DGet.k (k:=kTx ((opnL s_ L m).getD i [])) (s5 _ _ d4)
     rw[hv]at dg
     refine⟨pd,_,rfl,dg,sz _ (by decide),NewT.of fun t6 H6 s6 n6 l6=>q5 t6 _ H6 s6 l6 ⟨_,b,hw,rfl,hv⟩⟩
    ·intro p5 ys H5 s5 n5 l5 yl hys
     have n4':Nw H p5:=((((Nw.of n5).l sl4).same s3).chg (S:=[pd]) (H:=H1) (fun b o e nb _=>k2 b o e (by simpa using nb)) (fun b hb=>by obtain rfl:=YAS.mp hb;exact⟨_,d2,rfl⟩)).l (s0.l.trans sl)
     refine q ys p5 H5 (fun b o e t=>?_) (tk4.same s5) n4' l5 ⟨?_,fun i y hy=>?_⟩
     ·have nb:b≠pd:=Zak e hpd
      exact s5 _ _ (sl4 _ _ (s3 _ _ (k2 _ _ (sl _ _ (s0 _ _ e) t) nb)) t)
     ·unfold Zdj
      rw[YAE,yl,YAE]
     ·obtain⟨t,vs,rfl,ht,w,b,hw,rfl,hv⟩:=hys i y hy
      obtain⟨b',hv',hb'⟩:=i2.val w ((mws w).mpr (YAr hw))
      obtain rfl:b=b':=by rw[hv]at hv';injection hv' with e;injection e
      refine⟨_,by unfold Zdj;rw[YAo,hw];rfl,t,b,rfl,ht,s5 _ _ (sl4 _ _ (s3 _ _ hb') rfl)⟩
theorem ZfI:FnScope ["_law_found","_law_due","_law_one","_law_other"] ["_law_found","_law_due"] (Zah s_LK):=by walk_at "sc"
theorem ZhX (T:TL K mg base a tb):FnOk P w K mg base CX0 1 a.f_LK a.d_LK ["_law_found","_law_due"] (fun _ _ _ _=>False):=T.f_LK.ok ZfI (fun _ _ _ _ h=>h.elim) (fun _ _ _ _ _ _ _ _ _ h=>h.elim)
theorem Zpa (T:TL K mg base a tb):FnOk P w K mg base CX0 2 a.f_LK a.d_LK ["_law_found","_law_due"] (Zn3 K a):=by
 refine T.f_LK.ok ZfI (fun vs H Q E h=>?_) (fun cdv A outer s H vs Q E hr h=>?_)
 ·obtain⟨_,rfl,_⟩:=h;rfl
 ·have hu64:=hr.units
  have hu1:=ZaM hr
  obtain⟨x,rfl,hx,q⟩:=h
  refine⟨_,(Zac (ZaR (Za5 (Zai (ZcW (K:=K) rfl) rfl T.z_isinstance Zal (Zaa (pv 1) (Zaa (ZbV (Zaa (ZaD (v:=.ty "list") rfl T.z_list Zbw rfl) (Zaa (ZaD (v:=.ty "tuple") rfl T.z_tuple Zb7 rfl) Zab))) Zab)))) (Zac (ZaR (PW.pt (ZhL (Zaw (Zcd (K:=K) rfl hu64) (Zai (Zao (K:=K) rfl) rfl T.z_isinstance Zal (Zaa (pv 1) (Zaa (ZaD (v:=.ty "list") rfl T.z_list Zbw rfl) Zab))) (Zai (Zao (K:=K) rfl) rfl T.z_isinstance Zal (Zaa (pv 0) (Zaa (ZaD (v:=.ty "list") rfl T.z_list Zbw rfl) Zab))) (Zax _)) (ZeR (Zaw (Zcd (K:=K) rfl hu64) (Zai (Zao (K:=K) rfl) rfl T.z_isinstance Zal (Zaa (pv 1) (Zaa (ZaD (v:=.ty "tuple") rfl T.z_tuple Zb7 rfl) Zab))) (Zai (Zao (K:=K) rfl) rfl T.z_isinstance Zal (Zaa (pv 0) (Zaa (ZaD (v:=.ty "tuple") rfl T.z_tuple Zb7 rfl) Zab))) (Zax _))))) (Zaf (Zaq Zbp)) Zav)
   (Zaj (Zac (ZaR (Zaw (Zcd (K:=K) rfl hu64) (Zai (Zas (K:=K) rfl) rfl T.z_len ZaL (Zaa (pv 0) Zab)) (Zai (Zas (K:=K) rfl) rfl T.z_len ZaL (Zaa (pv 1) Zab)) (Zax _)) (Zaf (Zaq Zbp)) Zav)
   (Zaj (Zac (ZbA YBN rfl (ZhR (K:=K) rfl rfl T.z_zip (Zaa (pv 0) (Zaa (pv 1) Zab))) (Zj0 rfl (Zc5 (ZaF (i:=2) ZfI.nd rfl (Or.inl rfl)) (Zc5 (ZaF (i:=3) ZfI.nd rfl (Or.inl rfl)) ZhT)))
   (Zaf (ZaR (Zbq (Za5 (Zan (ZhX T) (hr.mono (by decide)) rfl T.m_LK T.f_LK.kp T.b_LK .nil Zay (Zaa (pv 2) (Zaa (pv 3) Zab))))) (Zaf (Zaq Zbp)) Zav)))
   (Zaf (Zaq Zbp))))))) Zav)
   (Zaj (Zac (ZaR (Zaw Zgs (pv 1) Zb8 (Zax _)) (Zaf (Zaq (ZaX Zgs (pv 0) Zb8 (Zax _)))) Zav)
   (Zaj (Zac (ZaR (Za5 (Zai (Zao (K:=K) rfl) rfl T.z_isinstance Zal (Zaa (pv 1) (Zaa (ZaD (v:=.ty "str") rfl T.z_str Zd7 rfl) Zab)))) (Zaf (Zaq (ZbN (Zai (Zao (K:=K) rfl) rfl T.z_isinstance Zal (Zaa (pv 0) (Zaa (ZaD (v:=.ty "str") rfl T.z_str Zd7 rfl) Zab))) (ZcT (ZaX (ZaH (K:=K) rfl hu64) (pv 0) (pv 1) (Zax _)))))) Zav)
   (Zaf (Zaq (ZbN (Zai (Zao (K:=K) rfl) rfl T.z_isinstance Zal (Zaa (pv 0) (Zaa (ZaD (v:=.ty "int") rfl T.z_int Zko rfl) Zab))) (ZbN (ZaX (ZaH (K:=K) rfl hu64) (Zai (Zao (K:=K) rfl) rfl T.z_isinstance Zal (Zaa (pv 0) (Zaa (ZaD (v:=.ty "bool") rfl T.z_bool ZcM rfl) Zab))) (Zai (Zao (K:=K) rfl) rfl T.z_isinstance Zal (Zaa (pv 1) (Zaa (ZaD (v:=.ty "bool") rfl T.z_bool ZcM rfl) Zab))) (Zax _)) (ZcT (ZaX (ZaH (K:=K) rfl hu64) (pv 0) (pv 1) (Zax _)))))))))))),?_⟩
  walk_at "rd"
  rcases hx with rfl | ⟨l,rfl⟩|⟨i,rfl⟩
  ·refine⟨by rw[sizeLine_eq];decide,NewT.of fun p1 H1 s1 n1 l1=>⟨_,p1,["list","tuple"],_,false,rfl,l1,.pl .non,rfl,(fun _ z=>nomatch z),iteF (Zam ?_)⟩⟩
   walk_at "rd"
   exact⟨trivial,iteT ⟨trivial,q H1 s1⟩⟩
  ·refine⟨by rw[sizeLine_eq];decide,NewT.of fun p1 H1 s1 n1 l1=>⟨_,p1,["list","tuple"],_,false,rfl,l1,.pl (.str _),rfl,(fun _ z=>nomatch z),iteF (Zam ?_)⟩⟩
   walk_at "rd"
   refine⟨trivial,iteF (Zam ?_)⟩
   walk_at "rd"
   exact⟨_,_,_,_,true,rfl,rfl,.ty (.pl (.str _)),Zcy,iteT ⟨_,_,_,_,true,rfl,rfl,.ty (.pl (.str _)),Zcy,iteT (Zpr (q H1 s1))⟩⟩
  ·refine⟨by rw[sizeLine_eq];decide,NewT.of fun p1 H1 s1 n1 l1=>⟨_,p1,["list","tuple"],_,false,rfl,l1,.pl (.int _),rfl,(fun _ z=>nomatch z),iteF (Zam ?_)⟩⟩
   walk_at "rd"
   refine⟨trivial,iteF (Zam ?_)⟩
   walk_at "rd"
   refine⟨_,_,_,_,false,rfl,rfl,.ty (.pl (.int _)),rfl,iteF ?_⟩
   refine⟨_,_,_,_,true,rfl,rfl,.ty (.pl (.int _)),Zcy,iteT ?_⟩
   refine⟨_,_,_,_,false,rfl,rfl,.ty (.pl (.int _)),rfl,_,_,_,_,false,rfl,rfl,.ty (.pl (.int _)),rfl,.inl ⟨rfl,true,rfl,iteT (eq_int (q H1 s1))⟩⟩
theorem Zmx (T:TL K mg base a tb):FnOk P w K mg base CX0 3 a.f_LK a.d_LK ["_law_found","_law_due"] (ZnX K a):=by
 refine T.f_LK.ok ZfI (fun vs H Q E h=>?_) (fun cdv A outer s H vs Q E hr h=>?_)
 ·obtain⟨_,_,rfl,_⟩:=h;rfl
 ·have hu64:=hr.units
  have hu1:=ZaM hr
  obtain⟨u,y,rfl,hxy,q⟩:=h
  refine⟨_,(Zac (ZaR (Za5 (Zai (ZcW (K:=K) rfl) rfl T.z_isinstance Zal (Zaa (pv 1) (Zaa (ZbV (Zaa (ZaD (v:=.ty "list") rfl T.z_list Zbw rfl) (Zaa (ZaD (v:=.ty "tuple") rfl T.z_tuple Zb7 rfl) Zab))) Zab)))) (Zac (ZaR (PW.pt (ZhL (Zaw (Zcd (K:=K) rfl hu64) (Zai (Zao (K:=K) rfl) rfl T.z_isinstance Zal (Zaa (pv 1) (Zaa (ZaD (v:=.ty "list") rfl T.z_list Zbw rfl) Zab))) (Zai (Zao (K:=K) rfl) rfl T.z_isinstance Zal (Zaa (pv 0) (Zaa (ZaD (v:=.ty "list") rfl T.z_list Zbw rfl) Zab))) (Zax _)) (ZeR (Zaw (Zcd (K:=K) rfl hu64) (Zai (Zao (K:=K) rfl) rfl T.z_isinstance Zal (Zaa (pv 1) (Zaa (ZaD (v:=.ty "tuple") rfl T.z_tuple Zb7 rfl) Zab))) (Zai (Zao (K:=K) rfl) rfl T.z_isinstance Zal (Zaa (pv 0) (Zaa (ZaD (v:=.ty "tuple") rfl T.z_tuple Zb7 rfl) Zab))) (Zax _))))) (Zaf (Zaq Zbp)) Zav)
   (Zaj (Zac (ZaR (Zaw (Zcd (K:=K) rfl hu64) (Zai (Zas (K:=K) rfl) rfl T.z_len ZaL (Zaa (pv 0) Zab)) (Zai (Zas (K:=K) rfl) rfl T.z_len ZaL (Zaa (pv 1) Zab)) (Zax _)) (Zaf (Zaq Zbp)) Zav)
   (Zaj (Zac (ZbA YBN rfl (ZhR (K:=K) rfl rfl T.z_zip (Zaa (pv 0) (Zaa (pv 1) Zab))) (Zj0 rfl (Zc5 (ZaF (i:=2) ZfI.nd rfl (Or.inl rfl)) (Zc5 (ZaF (i:=3) ZfI.nd rfl (Or.inl rfl)) ZhT)))
   (Zaf (ZaR (Zbq (Za5 (Zan (Zpa T) (hr.mono (by decide)) rfl T.m_LK T.f_LK.kp T.b_LK .nil Zay (Zaa (pv 2) (Zaa (pv 3) Zab))))) (Zaf (Zaq Zbp)) Zav)))
   (Zaf (Zaq Zbp))))))) Zav)
   (Zaj (Zac (ZaR (Zaw Zgs (pv 1) Zb8 (Zax _)) (Zaf (Zaq (ZaX Zgs (pv 0) Zb8 (Zax _)))) Zav)
   (Zaj (Zac (ZaR (Za5 (Zai (Zao (K:=K) rfl) rfl T.z_isinstance Zal (Zaa (pv 1) (Zaa (ZaD (v:=.ty "str") rfl T.z_str Zd7 rfl) Zab)))) (Zaf (Zaq (ZbN (Zai (Zao (K:=K) rfl) rfl T.z_isinstance Zal (Zaa (pv 0) (Zaa (ZaD (v:=.ty "str") rfl T.z_str Zd7 rfl) Zab))) (ZcT (ZaX (ZaH (K:=K) rfl hu64) (pv 0) (pv 1) (Zax _)))))) Zav)
   (Zaf (Zaq (ZbN (Zai (Zao (K:=K) rfl) rfl T.z_isinstance Zal (Zaa (pv 0) (Zaa (ZaD (v:=.ty "int") rfl T.z_int Zko rfl) Zab))) (ZbN (ZaX (ZaH (K:=K) rfl hu64) (Zai (Zao (K:=K) rfl) rfl T.z_isinstance Zal (Zaa (pv 0) (Zaa (ZaD (v:=.ty "bool") rfl T.z_bool ZcM rfl) Zab))) (Zai (Zao (K:=K) rfl) rfl T.z_isinstance Zal (Zaa (pv 1) (Zaa (ZaD (v:=.ty "bool") rfl T.z_bool ZcM rfl) Zab))) (Zax _)) (ZcT (ZaX (ZaH (K:=K) rfl hu64) (pv 0) (pv 1) (Zax _)))))))))))),?_⟩
  walk_at "rd"
  rcases hxy with⟨i,rfl,rfl⟩|⟨p,pq,vs,rfl,rfl,hx,hy,hz,hv⟩
  ·refine⟨by rw[sizeLine_eq];decide,NewT.of fun p1 H1 s1 n1 l1=>⟨_,p1,["list","tuple"],_,false,rfl,l1,.pl (.int _),rfl,(fun _ z=>nomatch z),iteF (Zam ?_)⟩⟩
   walk_at "rd"
   refine⟨trivial,iteF (Zam ?_)⟩
   walk_at "rd"
   refine⟨_,_,_,_,false,rfl,rfl,.ty (.pl (.int _)),rfl,iteF ?_⟩
   refine⟨_,_,_,_,true,rfl,rfl,.ty (.pl (.int _)),Zcy,iteT ?_⟩
   refine⟨_,_,_,_,false,rfl,rfl,.ty (.pl (.int _)),rfl,_,_,_,_,false,rfl,rfl,.ty (.pl (.int _)),rfl,.inl ⟨rfl,true,rfl,iteT (eq_int (q H1 s1))⟩⟩
  ·refine⟨by rw[sizeLine_eq];decide,NewT.of fun p1 H1 s1 n1 l1=>⟨_,p1,["list","tuple"],_,true,rfl,l1,.pl (.lst (s1 _ _ hy)),rfl,(fun _ z=>nomatch z),iteT ?_⟩⟩
   have hx1:=s1 _ _ hx
   have hy1:=s1 _ _ hy
   refine⟨_,_,_,_,true,rfl,rfl,.ty (.pl (.lst hy1)),Zcy,_,_,_,_,true,rfl,rfl,.ty (.pl (.lst hx1)),Zcy,.inl ⟨rfl,false,rfl,iteF ?_⟩⟩
   refine⟨_,_,_,_,false,rfl,rfl,.ty (.pl (.lst hy1)),rfl,_,_,_,_,false,rfl,rfl,.ty (.pl (.lst hx1)),rfl,.inl ⟨rfl,false,rfl,iteF (Zam ?_)⟩⟩
   walk_at "rd"
   refine⟨_,vs.length,rfl,.inl ⟨_,.mk hx1,rfl⟩,_,vs.length,rfl,.inl ⟨_,.mk hy1,rfl⟩,ne_int ⟨false,rfl,iteF (Zam ?_)⟩⟩
   walk_at "rd"
   refine⟨p,pq,rfl,.inr ⟨⟨_,.mk hx1⟩,⟨_,.mk hy1⟩,ForRun.zipL (xs:=vs) (ys:=vs) rfl (fun i σ H'=>∃v2 v3,σ=[some (.ref p),some (.ref pq),v2,v3]∧Same H1 H') ⟨_,_,rfl,Same.refl _⟩ (fun i σ H' _ ⟨_,_,_,s'⟩=>⟨.mk (s' _ _ hx1),.mk (s' _ _ hy1)⟩) ?_ ?_⟩⟩
   ·rintro i u v pt σ H2 hu hv' ⟨v2,v3,rfl,s2⟩ hn
    have e:u=v:=Option.some.inj (hu.symm.trans hv')
    subst e
    walk_at "rd"
    refine⟨pt,[u,u],rfl,.mk Zad,rfl,u,[u],rfl,u,[],rfl,rfl,u,rfl,hv u (YAr hu),fun H3 s3=>⟨true,rfl,?_⟩⟩
    rw[Bool.not_true]
    exact iteF ⟨_,_,rfl,s2.trans ((Zaz hn).trans s3)⟩
   ·rintro σ H2 ⟨v2,v3,rfl,s2⟩
    walk_at "rd"
    exact q H2 (s1.trans s2)
theorem Zec:FnScope ["_law_script","_law_at","_law_kinds_here","_law_shape","_law_size","_law_text_here","_law_place","_law_letter"] ["_law_script","_law_at","_law_kinds_here"] (Zah s_LL):=by walk_at "sc"
theorem Zo8 (T:TL K mg base a tb):FnOk P w K mg base CX0 3 a.f_LL a.d_LL ["_law_script","_law_at","_law_kinds_here"] (ZnW K a):=by
 refine T.f_LL.ok Zec (fun vs H Q E h=>?_) (fun cdv A outer s H vs Q E hr h=>?_)
 ·obtain⟨_,_,_,_,rfl,_⟩:=h;rfl
 ·have hu64:=hr.units
  have hu1:=ZaM hr
  obtain⟨b,ns,k,m,rfl,hS,hk,hk1,hm,h4,q⟩:=h
  refine⟨_,(Zac (Zau (i:=3) Zec.nd rfl (Or.inl rfl) (Zan (Zjf T) (hr.mono (by decide)) rfl T.m_LN T.f_LN.kp T.b_LN .nil Zay (Zaa (Zan (ZhZ T) (hr.mono (by decide)) rfl T.m_LJ T.f_LJ.kp T.b_LJ .nil Zay (Zaa (pv 0) (Zaa (pv 1) Zab))) (Zaa Zag Zab))))
   (Zac (Zau (i:=4) Zec.nd rfl (Or.inl rfl) (Zat ZaQ (pv 3) Zag))
   (Zac (ZaR (Zaw (ZaH (K:=K) rfl hu64) (Zat ZaQ (Zat Za1 (pv 3) Zag) Zag) Zag (Zax _)) (Zaf (Zau (i:=4) Zec.nd rfl (Or.inl rfl) (Zat ZaQ (Zat Za1 (pv 3) Zag) Zag))) Zav)
   (Zac (Zau (i:=5) Zec.nd rfl (Or.inl rfl) (Zan (Zk2 T) (hr.mono (by decide)) rfl T.m_K5 T.f_K5.kp T.b_K5 .nil Zay (Zaa (Zan (ZhZ T) (hr.mono (by decide)) rfl T.m_LJ T.f_LJ.kp T.b_LJ .nil Zay (Zaa (pv 0) (Zaa (Zat Za6 (pv 1) Zag) Zab))) (Zaa (pv 2) (Zaa (pv 4) (Zaa (ZaX (ZaH (K:=K) rfl hu64) (Zat ZaQ (Zat Za1 (pv 3) Zag) Zag) Zag (Zax _)) Zab))))))
   (Zac (ZaR (PW.pt (ZjZ (Zaw (ZaH (K:=K) rfl hu64) (Zat ZaQ (Zat Za1 (pv 3) Zag) Zag) Zag (Zax _)) (ZhM (Zaw Zje (pv 4) Zag (Zax _))))) (Zac (Zau (i:=5) Zec.nd rfl (Or.inl rfl) (ZaC Zbz (Zat ZeW (ZaC Zbz (pv 5) Za0 (ZaE (Zat Za6 Zag (Zat ZaQ (Zat Za1 (pv 3) Zag) Zag)))) (pv 4)) Za0 (ZaE (pv 4))))
   (Zac (Zau (i:=6) Zec.nd rfl (Or.inl rfl) (Zat ZaQ (Zat Za1 (pv 3) Zag) (pv 4)))
   (Zac (Zau (i:=7) Zec.nd rfl (Or.inl rfl) (Zbg ZcH (pv 2) (Zat ZaQ (Zat Za1 (pv 3) Zag) (Zai (Zas (K:=K) rfl) rfl T.z_len ZaL (Zaa (pv 2) Zab))) (fun _ _=>rfl)))
   (Zaf (Zau (i:=5) Zec.nd rfl (Or.inl rfl) (Zat ZaP (Zat ZaP (ZaC Zbz (pv 5) Za0 (ZaE (pv 6))) (pv 7)) (ZaC Zbz (pv 5) (ZaE (Zat Za6 (pv 6) Zag)) Za0))))))) Zav)
   (Zaf (Zaq (pv 5)))))))),?_⟩
  walk_at "rd"
  refine⟨b,ns,k,rfl,hS,hk,by omega,fun r0=>⟨_,_,rfl,fun sp hsp=>?_⟩⟩
  have hM:m.length≤1000:=by omega
  have sz:m.length≤sizeLine:=YAP hM (by rw[sizeLine_eq];decide)
  have pm:(0:Int)<m.length:=by omega
  have at_:∀x:Int,∃v,atI m (x % m.length)=some v∧v∈m:=fun x=>ZgK (YBu _ (by omega)) (YBm _ pm)
  walk_at "rd"
  refine⟨by decide,⟨by decide,by decide⟩,by decide,.inl ⟨rfl,_,rfl,ite2 (fun h=>?_) (fun h=>?_)⟩⟩
  ·obtain⟨n,hn,hn40⟩:∃n:Nat,sp/104 % 41=(n:Int)∧n≤40:=⟨(sp/104 % 41).toNat,by omega,by omega⟩
   rw[hn]
   refine⟨⟨by decide,by decide⟩,by decide,b,ns,_,rfl,hS,by omega,by omega,fun r1=>⟨⟨by decide,by decide⟩,by decide,.inl ⟨rfl,r1,m,(n:Int),_,rfl,hm,h4,by omega,by omega,fun f H2 hf hfm s2=>?_⟩⟩⟩
   rw[YBa]at hf
   refine⟨⟨by decide,by decide⟩,by decide,.inl ⟨rfl,_,rfl,ite2 (fun h=>ite2 (fun h2=>?_) (fun h2=>q f H2 (by omega) hfm s2)) (fun h=>iteF (q f H2 (by omega) hfm s2))⟩⟩
   have hn0:0<n:=by have:=of_decide_eq_true h2;omega
   obtain⟨c1,hc1,hm1⟩:=at_ (sp/7200000)
   have cl:=ZbG f none (some (1+sp/30000 % 6))
   obtain⟨g1,g2⟩:=fill (e:=1+sp/30000 % 6) hn0 hf hfm (by omega)
   have gl:(repT (cut f none (some (1+sp/30000 % 6))) (n:Nat)).length≤40*40:=by rw[Zed,YBa];exact Nat.mul_le_mul hn40 (by omega)
   have m0:=YBu (sp/180000) (show ((n:Nat):Int)≠0 by omega)
   have m1:=YBm (sp/180000) (show (0:Int)<(n:Nat) by omega)
   refine⟨⟨by decide,by decide⟩,by decide,_,rfl,f,rfl,by rw[sizeLine_eq];omega,_,_,rfl,rfl,by omega,by omega,by omega,_,rfl,_,rfl,by rw[sizeLine_eq];omega,⟨by decide,by decide⟩,by omega,⟨by decide,by decide⟩,_,_,rfl,Zbl hM,pm,m,_,c1,rfl,rfl,sz,hc1,?_⟩
   generalize cut (repT (cut f none (some (1+sp/30000 % 6))) (n:Nat)) none (some ((n:Nat):Int))=g at g1 g2
   obtain⟨k1,k2⟩:=put1 (c:=c1) (i:=sp/180000 % (n:Nat)) g1 g2 hm1 m0 m1
   have e1:=k1
   rw[YAF,YAF,YAp]at e1
   exact⟨_,rfl,g,rfl,by rw[sizeLine_eq];omega,by rw[sizeLine_eq];omega,_,rfl,g,rfl,by rw[sizeLine_eq];omega,by rw[sizeLine_eq,YAF,YAp];omega,q _ H2 (by omega) k2 s2⟩
  ·obtain⟨n,hn,hn40⟩:∃n:Nat,sp % 13=(n:Int)∧n≤40:=⟨(sp % 13).toNat,by omega,by omega⟩
   rw[hn]
   refine⟨b,ns,_,rfl,hS,by omega,by omega,fun r1=>⟨⟨by decide,by decide⟩,by decide,.inl ⟨rfl,r1,m,(n:Int),_,rfl,hm,h4,by omega,by omega,fun f H2 hf hfm s2=>?_⟩⟩⟩
   rw[YBa]at hf
   refine⟨⟨by decide,by decide⟩,by decide,.inl ⟨rfl,_,rfl,ite2 (fun h=>ite2 (fun h2=>?_) (fun h2=>q f H2 (by omega) hfm s2)) (fun h=>iteF (q f H2 (by omega) hfm s2))⟩⟩
   have hn0:0<n:=by have:=of_decide_eq_true h2;omega
   obtain⟨c1,hc1,hm1⟩:=at_ (sp/7200000)
   have cl:=ZbG f none (some (1+sp/30000 % 6))
   obtain⟨g1,g2⟩:=fill (e:=1+sp/30000 % 6) hn0 hf hfm (by omega)
   have gl:(repT (cut f none (some (1+sp/30000 % 6))) (n:Nat)).length≤40*40:=by rw[Zed,YBa];exact Nat.mul_le_mul hn40 (by omega)
   have m0:=YBu (sp/180000) (show ((n:Nat):Int)≠0 by omega)
   have m1:=YBm (sp/180000) (show (0:Int)<(n:Nat) by omega)
   refine⟨⟨by decide,by decide⟩,by decide,_,rfl,f,rfl,by rw[sizeLine_eq];omega,_,_,rfl,rfl,by omega,by omega,by omega,_,rfl,_,rfl,by rw[sizeLine_eq];omega,⟨by decide,by decide⟩,by omega,⟨by decide,by decide⟩,_,_,rfl,Zbl hM,pm,m,_,c1,rfl,rfl,sz,hc1,?_⟩
   generalize cut (repT (cut f none (some (1+sp/30000 % 6))) (n:Nat)) none (some ((n:Nat):Int))=g at g1 g2
   obtain⟨k1,k2⟩:=put1 (c:=c1) (i:=sp/180000 % (n:Nat)) g1 g2 hm1 m0 m1
   have e1:=k1
   rw[YAF,YAF,YAp]at e1
   exact⟨_,rfl,g,rfl,by rw[sizeLine_eq];omega,by rw[sizeLine_eq];omega,_,rfl,g,rfl,by rw[sizeLine_eq];omega,by rw[sizeLine_eq,YAF,YAp];omega,q _ H2 (by omega) k2 s2⟩
theorem ZhG:FnScope ["_law_cell_here","_law_text_here","_law_kinds_here","_law_way","_law_start","_law_piece","_law_left"] ["_law_cell_here","_law_text_here","_law_kinds_here"] (Zah s_LM):=by walk_at "sc"
theorem Zo7 (T:TL K mg base a tb):FnOk P w K mg base CX0 3 a.f_LM a.d_LM ["_law_cell_here","_law_text_here","_law_kinds_here"] (ZnV K a):=by
 refine T.f_LM.ok ZhG (fun vs H Q E h=>?_) (fun cdv A outer s H vs Q E hr h=>?_)
 ·obtain⟨_,_,_,rfl,_⟩:=h;rfl
 ·have hu64:=hr.units
  have hu1:=ZaM hr
  obtain⟨c,l,m,rfl,hl,hlm,hm,h4,q⟩:=h
  refine⟨_,(Zac (Zau (i:=3) ZhG.nd rfl (Or.inl rfl) (Zat ZaQ (pv 0) Zag))
   (Zac (Zau (i:=4) ZhG.nd rfl (Or.inl rfl) (Zat ZaQ (Zat Za1 (pv 0) Zag) (Zat Za6 (Zai (Zas (K:=K) rfl) rfl T.z_len ZaL (Zaa (pv 1) Zab)) Zag)))
   (Zac (Zau (i:=5) ZhG.nd rfl (Or.inl rfl) (ZaC Zbz (pv 1) (ZaE (pv 4)) (ZaE (Zat Za6 (pv 4) (Zat ZaQ (Zat Za1 (pv 0) Zag) Zag)))))
   (Zac (Zau (i:=6) ZhG.nd rfl (Or.inl rfl) (Zat Za1 (pv 0) Zag))
   (Zac (ZaR (Zaw (ZaH (K:=K) rfl hu64) (pv 3) Zag (Zax _)) (Zaf (Zaq (pv 5))) Zav)
   (Zac (ZaR (Zaw (ZaH (K:=K) rfl hu64) (pv 3) Zag (Zax _)) (Zaf (Zaq (Zat ZaP (pv 5) (Zan (Zk2 T) (hr.mono (by decide)) rfl T.m_K5 T.f_K5.kp T.b_K5 .nil Zay (Zaa (Zat Za1 (pv 6) Zag) (Zaa (pv 2) (Zaa (Zat ZaQ (pv 6) Zag) (Zaa Zbp Zab)))))))) Zav)
   (Zac (ZaR (Zaw (ZaH (K:=K) rfl hu64) (pv 3) Zag (Zax _)) (Zaf (Zaq (Zan (Zk2 T) (hr.mono (by decide)) rfl T.m_K5 T.f_K5.kp T.b_K5 .nil Zay (Zaa (Zat Za1 (pv 6) Zag) (Zaa (pv 2) (Zaa (Zat ZaQ (pv 6) Zag) (Zaa Zbp Zab))))))) Zav)
   (Zaf (Zaq (ZaC Zbz (Zat ZaP (pv 5) (ZaC Zbz (pv 1) (ZaE (Zat ZaQ (pv 6) (Zat Za6 (Zai (Zas (K:=K) rfl) rfl T.z_len ZaL (Zaa (pv 1) Zab)) Zag))) Za0)) Za0 (ZaE Zag))))))))))),?_⟩
  have sz:l.length≤sizeLine:=by rw[sizeLine_eq];omega
  walk_at "rd"
  have cm:∀ {lo hi:Option Int},∀x∈cut l lo hi,x∈m:=fun x hx=>hlm x (Zh5 hx)
  have c1:=ZbG l (some (c/4 % ((l.length:Nat)+1))) (some (c/4 % ((l.length:Nat)+1)+c/164 % 41))
  have c2:=ZbG l (some (c/6724 % ((l.length:Nat)+1))) none
  refine⟨by decide,⟨by decide,by decide⟩,_,_,rfl,Zbl (by omega),by omega,_,rfl,⟨by decide,by decide⟩,by decide,_,rfl,l,rfl,sz,⟨by decide,by decide⟩,.inl ⟨rfl,_,rfl,ite2 (fun h=>q _ H (by omega) cm (Same.refl _)) (fun h=>.inl ⟨rfl,_,rfl,ite2 (fun h2=>?_) (fun h2=>.inl ⟨rfl,_,rfl,ite2 (fun h3=>?_) (fun h3=>?_)⟩)⟩)⟩⟩
  ·refine⟨⟨by decide,by decide⟩,by decide,_,m,_,true,rfl,hm,h4,by omega,by omega,fun w H2 hw hwm s2=>⟨_,_,rfl,rfl,by rw[sizeLine_eq];omega,q _ H2 (by rw[YAF];omega) (fun x hx=>?_) s2⟩⟩
   rcases YAe.mp hx with hx | hx
   ·exact cm x hx
   ·exact hwm x hx
  ·exact⟨⟨by decide,by decide⟩,by decide,_,m,_,true,rfl,hm,h4,by omega,by omega,fun w H2 hw hwm s2=>q w H2 (by omega) hwm s2⟩
  ·refine⟨_,_,rfl,Zbl (by omega),by omega,_,rfl,l,rfl,sz,by rw[sizeLine_eq];omega,_,rfl,_,rfl,by rw[YAF,sizeLine_eq];omega,q _ H ?_ (fun x hx=>?_) (Same.refl _)⟩
   ·rw[Zlz _ (by decide),YAb]
    exact Nat.min_le_left _ _
   ·rcases YAe.mp (Zh5 hx) with hx | hx
    ·exact cm x hx
    ·exact cm x hx
theorem ZoJ:FnScope ["thing","kinds"] ["thing","kinds"] (Zah s_KH):=by walk_at "sc"
theorem Zpg (T:TL K mg base a tb):FnOk P w K mg base (CXr P w) 4 a.f_KH a.d_KH ["thing","kinds"] (Zoj K a):=by
 refine T.f_KH.okX ZoJ (fun vs H Q E h=>?_) (fun cdv A outer s H vs Q E hr h=>?_)
 ·obtain⟨_,_,rfl,_⟩:=h;rfl
 ·have hu64:=hr.units
  have hu1:=ZaM hr
  obtain⟨v,m,rfl,q⟩:=h
  refine⟨_,(Zaf (ZaR (Zbq (Za5 (Zan (Zpc T) (hr.mono (by decide)) rfl T.m_KY T.f_KY.kp T.b_KY .nil Zay (Zaa (pv 0) (Zaa (pv 1) Zab))))) (Zaf (Zb2 ZbF rfl (Zgm T.x_K8 T.i_K8 T.fn_K8 (Zb9 T) (hr.mono (by decide)) T.b_K8 Zay rfl T.m_K8 (Zaa (pv 0) Zab)))) Zav)),?_⟩
  walk_at "rd"
  have up:∀H1,Same H H1→XNw a E H v→(1≤1000∧MkI (Zge K a.c_K8 1 (fs1 (Str.ofString "word"))) E0 a.c_K8 [v] H1 fun v H1=>∃e C d,v=.ref e∧H1 e=some (xo e C d)∧Xm K C∧E (.ref C) (some e) (upd H1 e (xr e C d))):=fun H1 s1 z=>
   ⟨by decide,MkI.of rfl fun e H2 s2 n2 x2=>by
    obtain⟨d,hd,hx⟩:=ZeQ x2
    exact⟨e,_,d,rfl,hd,T.x_K8,z e _ (s1.trans (same_upd3 s2 n2)) hx⟩⟩
  rcases q with⟨l,rfl,hl,hk,q⟩|⟨⟨l,rfl,hl,hk⟩ | o,q⟩
  ·exact⟨_,_,rfl,.inl ⟨l,rfl,hl,fun H2 s2=>⟨_,rfl,by rw[hk];exact iteF (q H2 s2)⟩⟩⟩
  ·exact⟨_,_,rfl,.inl ⟨l,rfl,hl,fun H2 s2=>⟨_,rfl,by rw[hk];exact iteT (up H2 s2 q)⟩⟩⟩
  ·exact⟨_,_,rfl,.inr ⟨o,_,rfl,iteT (up H (Same.refl _) q)⟩⟩
theorem Zma:FnScope ["self","word","found"] ["self","word"] (Zah s_KB):=by walk_at "sc"
theorem Zjg (T:TL K mg base a tb):FnOk P w K mg base (CXr P w) 4 a.g_KB a.e_KB ["self","word"] (ZkB K a):=by
 refine T.fm_KB.okX Zma (fun vs H Q E h=>?_) (fun cdv A outer s H vs Q E hr h=>?_)
 ·obtain⟨_,_,_,_,rfl,_⟩:=h;rfl
 ·have hu64:=hr.units
  have hu1:=ZaM hr
  obtain⟨p,l,m,v,rfl,hp,l40,q⟩:=h
  refine⟨_,(Zac (ZaW (Zan (Zk1 T) (hr.mono (by decide)) rfl T.m_KZ T.f_KZ.kp T.b_KZ .nil Zbh (Zaa (pv 1) (Zaa (ZaK (K:=K) rfl (pv 0) rfl) (Zaa (Zcp rfl T.c_KJ) Zab)))))
   (Zac (Zau (i:=2) Zma.nd rfl (Or.inl rfl) (Zan (Zmz T) (hr.mono (by decide)) rfl T.m_LE T.f_LE.kp T.b_LE .nil Zay (Zaa (ZdV (Zba (pv 0) T.cl_LF T.me_Plain_laid_out (ZmO T) (hr.mono (by decide)) T.b_KA .nil Zay (Zaa (Zai (Zas (K:=K) rfl) rfl T.z_len ZaL (Zaa (pv 1) Zab)) Zab)) (Zba (pv 0) T.cl_LG T.me_Strip_laid_out (ZmO T) (hr.mono (by decide)) T.b_KA .nil Zay (Zaa (Zai (Zas (K:=K) rfl) rfl T.z_len ZaL (Zaa (pv 1) Zab)) Zab))) (Zaa (pv 1) Zab))))
   (Zaf (Zaq (Zgo (Zi9 (pv 2) (fun _=>rfl)) (Zbg (Zbm (K:=K) rfl) (pv 2) Zag (fun _ _=>rfl)) Zb8))))),?_⟩
  have bt:=hp
  obtain⟨C,dx,fs,hC,f,gt,gk,_,_,_,n4,_⟩:=hp
  have hC2:=hC
  walk_at "rd"
  rcases hC with rfl | rfl
  case' inl=>refine⟨p,_,dx,_,_,rfl,f,T.cl_LF,T.n_Plain_own_kinds,gk,?_⟩
  case' inr=>refine⟨p,_,dx,_,_,rfl,f,T.cl_LG,T.n_Strip_own_kinds,gk,?_⟩
  all_goals
   rcases q with⟨w_,rfl,hw,hk,q⟩|⟨bw,x⟩
   ·have w60:=Zj8 hk
    refine⟨_,m,60,rfl,.inl ⟨w_,rfl,hw,hk,fun H1 s1=>ZcN hC2 (s1 _ _ f) n4 ?_ ?_⟩⟩
    all_goals
     refine⟨_,_,rfl,Zbl hw,p,l,w_.length,rfl,bt.text.same s1,l,w_,rfl,by omega,by omega,fun p1 H2 s2 l2=>?_⟩
     have q':=q H2 (s1.trans s2)
     cases hpl:placesOf l w_ with
     | nil=>
      rw[hpl]at l2 q'
      exact⟨false,.inl ⟨_,.mk l2,rfl⟩,iteF q'⟩
     | cons i r=>
      rw[hpl]at l2 q'
      exact⟨true,.inl ⟨_,.mk l2,rfl⟩,iteT ⟨p1,_,_,_,rfl,rfl,.mk l2,atI0,q'⟩⟩
   ·exact⟨_,m,60,rfl,.inr ⟨bw,x⟩⟩
theorem ZoE:FnScope ["strip","word"] ["strip","word"] (Zah s_KQ):=by walk_at "sc"
theorem ZmH (T:TL K mg base a tb):FnOk P w K mg base (CXr P w) 4 a.f_KQ a.d_KQ ["strip","word"] (Zod K a):=by
 refine T.f_KQ.okX ZoE (fun vs H Q E h=>?_) (fun cdv A outer s H vs Q E hr h=>?_)
 ·obtain⟨_,_,_,_,rfl,_⟩:=h;rfl
 ·have hu64:=hr.units
  have hu1:=ZaM hr
  obtain⟨p,l,m,v,rfl,hp,l40,q⟩:=h
  refine⟨_,(Zac (ZaW (Zan (Zk1 T) (hr.mono (by decide)) rfl T.m_KZ T.f_KZ.kp T.b_KZ .nil Zbh (Zaa (pv 1) (Zaa (ZdV (Zbk (pv 0) T.cl_LF T.me_Plain_kinds (ZmK T) (hr.mono (by decide)) T.b_KI .nil Zay) (Zbk (pv 0) T.cl_LG T.me_Strip_kinds (ZmK T) (hr.mono (by decide)) T.b_KI .nil Zay)) (Zaa (Zcp rfl T.c_KJ) Zab)))))
   (Zaj (Zaf (Zaq (Zan (Zmz T) (hr.mono (by decide)) rfl T.m_LE T.f_LE.kp T.b_LE .nil Zay (Zaa (ZdV (Zbk (pv 0) T.cl_LF T.me_Plain_text (Zh0 T) (hr.mono (by decide)) T.b_KU .nil Zay) (Zbk (pv 0) T.cl_LG T.me_Strip_text (Zh0 T) (hr.mono (by decide)) T.b_KU .nil Zay)) (Zaa (pv 1) Zab))))))),?_⟩
  have bt:=hp
  obtain⟨C,dx,fs,hC,f,gt,gk,n1,n2,n3,n4,n5⟩:=hp
  walk_at "rd"
  have kk:∀ {Q':VK},Q' (tx m) H→Zl5 K a [.ref p] H Q' E0:=fun hq=>⟨p,l,m,rfl,bt,hq⟩
  refine ZcN hC f n5 (kk ?_) (kk ?_)
  all_goals
   rcases q with⟨w_,rfl,hw,hk,q⟩|⟨bw,x⟩
   ·have w60:=Zj8 hk
    refine⟨_,m,60,rfl,.inl ⟨w_,rfl,hw,hk,fun H1 s1=>Zam ?_⟩⟩
    walk_at "rd"
    have tt:∀ {Q':VK},Q' (tx l) H1→ZkA K a [.ref p] H1 Q' E0:=fun hq=>⟨p,l,rfl,bt.text.same s1,hq⟩
    refine ZcN hC (s1 _ _ f) n1 (tt ?_) (tt ?_)
    all_goals exact⟨l,w_,rfl,by omega,by omega,fun r H2 s2 l2=>q r H2 (s1.trans s2) l2⟩
   ·exact⟨_,m,60,rfl,.inr ⟨bw,x⟩⟩
theorem ZkI:FnScope ["self","longer","came","went"] ["self","longer"] (Zah s_KO):=by walk_at "sc"
theorem ZmJ (T:TL K mg base a tb):FnOk P w K mg base CX0 4 a.g_KO a.e_KO ["self","longer"] (Zof K a):=by
 refine T.fm_KO.ok ZkI (fun vs H Q E h=>?_) (fun cdv A outer s H vs Q E hr h=>?_)
 ·obtain⟨_,_,_,_,_,_,rfl,_⟩:=h;rfl
 ·have hu64:=hr.units
  have hu1:=ZaM hr
  obtain⟨p,la,da,s_,L,m,rfl,hp,hla,hL,ex,hm,ok,tk,q⟩:=h
  refine⟨_,(Zaj (Zac (Zau (i:=2) ZkI.nd rfl (Or.inl rfl) (Zan (ZmA T) (hr.mono (by decide)) rfl T.m_LD T.f_LD.kp T.b_LD .nil Zay (Zaa (ZaK (K:=K) rfl (pv 0) rfl) (Zaa (pv 1) (Zaa (ZaK (K:=K) rfl (pv 0) rfl) (Zaa (ZaO (l:=[102,105,114,115,116]) (by decide +kernel)) Zab))))))
   (Zaj (Zac (Zau (i:=3) ZkI.nd rfl (Or.inl rfl) (Zan (ZmB T) (hr.mono (by decide)) rfl T.m_LA T.f_LA.kp T.b_LA .nil Zay (Zaa (ZaK (K:=K) rfl (pv 0) rfl) (Zaa (pv 1) (Zaa (ZaO (l:=[115,116,97,110,100,115]) (by decide +kernel)) Zab)))))
   (Zaj (Zaf (Zaq (Zba (pv 0) T.cl_LG T.me_KE (ZmN T) (hr.mono (by decide)) T.b_KE .nil Zay (Zaa (pv 1) (Zaa (pv 2) (Zaa (pv 3) Zab))))))))))),?_⟩
  obtain⟨dx,f⟩:=hp
  have m4:=ok.m4
  walk_at "rd"
  refine Zam ?_
  walk_at "rd"
  refine⟨p,_,dx,_,_,rfl,f,T.cl_LG,T.n_Strip_own_text,Za3,p,_,dx,_,_,rfl,f,T.cl_LG,T.n_Strip_own_kinds,Zck,?_⟩
  refine⟨s_,L,_,m,rfl,by omega,ex,hm,ok.rise,m4,tk,fun ys c H1 sl1 tk1 n1 l1 r1=>?_⟩
  refine Zam ?_
  walk_at "rd"
  have f1:=sl1 _ _ f rfl
  refine⟨p,_,dx,_,_,rfl,f1,T.cl_LG,T.n_Strip_own_text,Za3,?_⟩
  refine⟨s_,L,_,m,rfl,by omega,ex,hm,ok.rise,tk1,fun zs g H2 sl2 tk2 n2 l2 r2=>?_⟩
  refine Zam ?_
  walk_at "rd"
  have f2:=sl2 _ _ f1 rfl
  have l12:=sl2 _ _ l1 rfl
  have la2:=sl2 _ _ (sl1 _ _ hla rfl) rfl
  have sl02:=sl1.trans sl2
  have ncg:c≠g:=n2.ne l1 rfl
  refine⟨p,dx,_,rfl,f2,sN (by decide +kernel),p,la,da,c,g,s_,L,m,ZaN s_ m,ZaN L m,ys,zs,_,_,rfl,⟨dx,f2⟩,la2,l12,r1.l sl2,l2,r2,ZaT ok.rise,ZaT ok.rise,?_,?_,?_,?_,?_,?_,?_,?_,tk2,?_⟩
  ·rw[ZbT];exact Zcs ((ZaT ok.rise).filter _)
  ·intro w;rw[ZbT,Zei]
  ·intro w;rw[ZbU,Zej]
  ·exact YAP (ZbE m4 (by have:=ex.len;omega)) (by decide)
  ·rw[←YAE (f:=(·.1)),ZbT]
   exact YAP (YAt _ _) (YAP (ZbE m4 (by omega)) (by decide))
  ·rw[←YAE (f:=(·.1)),ZbU]
   exact YAP (YAt _ _) (YAP (ZbE m4 (by have:=ex.len;omega)) (by decide))
  ·intro w hw;have:=Zcx (by have:=ex.len;omega) hw;omega
  ·intro w hw;have:=Zcx hL hw;omega
  ·intro t la3 H3 ch3 f3 nl3 e3 t3 tk3
   have np:∀us,H2 p≠some (.tup us):=fun us z=>by rw[f2]at z;cases z
   have ncp:p≠c:=n1.ne f rfl
   have ngp:p≠g:=n2.ne f1 rfl
   refine q t c g la3 H3 (sl02.chg.trans ch3) f3 e3 ⟨t3,⟨ys,ch3 _ _ l12 (by simpa using YAx ncp) rfl,(r1.l sl2).chg ch3 (fun b hb us=>by rw[YAS.mp hb];exact np us)⟩,⟨zs,ch3 _ _ l2 (by simpa using YAx ngp) rfl,r2.chg ch3 (fun b hb us=>by rw[YAS.mp hb];exact np us)⟩,n1,n2.l sl1,nl3.l sl02,ncg,nl3.ne l12 rfl,nl3.ne l2 rfl⟩ tk3
theorem ZkJ:FnScope ["self","lesser","came","went"] ["self","lesser"] (Zah s_KF):=by walk_at "sc"
theorem ZmM (T:TL K mg base a tb):FnOk P w K mg base CX0 4 a.g_KF a.e_KF ["self","lesser"] (Zol K a):=by
 refine T.fm_KF.ok ZkJ (fun vs H Q E h=>?_) (fun cdv A outer s H vs Q E hr h=>?_)
 ·obtain⟨_,_,_,_,_,_,rfl,_⟩:=h;rfl
 ·have hu64:=hr.units
  have hu1:=ZaM hr
  obtain⟨p,la,da,s_,L,m,rfl,hp,hla,hL,ex,hm,ok,tk,q⟩:=h
  refine⟨_,(Zac (Zau (i:=2) ZkJ.nd rfl (Or.inl rfl) (Zan (ZmB T) (hr.mono (by decide)) rfl T.m_LA T.f_LA.kp T.b_LA .nil Zay (Zaa (pv 1) (Zaa (ZaK (K:=K) rfl (pv 0) rfl) (Zaa (ZaO (l:=[115,116,111,111,100]) (by decide +kernel)) Zab)))))
   (Zac (Zau (i:=3) ZkJ.nd rfl (Or.inl rfl) (Zan (ZmA T) (hr.mono (by decide)) rfl T.m_LD T.f_LD.kp T.b_LD .nil Zay (Zaa (pv 1) (Zaa (ZaK (K:=K) rfl (pv 0) rfl) (Zaa (ZaK (K:=K) rfl (pv 0) rfl) (Zaa (ZaO (l:=[108,97,115,116]) (by decide +kernel)) Zab))))))
   (Zaf (Zaq (Zba (pv 0) T.cl_LG T.me_KE (ZmN T) (hr.mono (by decide)) T.b_KE .nil Zay (Zaa (pv 1) (Zaa (pv 2) (Zaa (pv 3) Zab)))))))),?_⟩
  obtain⟨dx,f⟩:=hp
  have m4:=ok.m4
  walk_at "rd"
  refine⟨p,_,dx,_,_,rfl,f,T.cl_LG,T.n_Strip_own_text,Za3,?_⟩
  refine⟨s_,L,_,m,rfl,by omega,ex,hm,ok.rise,tk,fun ys c H1 sl1 tk1 n1 l1 r1=>?_⟩
  walk_at "rd?"
  have f1:=sl1 _ _ f rfl
  refine⟨p,_,dx,_,_,rfl,f1,T.cl_LG,T.n_Strip_own_text,Za3,p,_,dx,_,_,rfl,f1,T.cl_LG,T.n_Strip_own_kinds,Zck,?_⟩
  refine⟨s_,L,_,m,rfl,by omega,ex,hm,ok.rise,m4,tk1,fun zs g H2 sl2 tk2 n2 l2 r2=>?_⟩
  walk_at "rd?"
  have f2:=sl2 _ _ f1 rfl
  have l12:=sl2 _ _ l1 rfl
  have la2:=sl2 _ _ (sl1 _ _ hla rfl) rfl
  have sl02:=sl1.trans sl2
  have ncg:c≠g:=n2.ne l1 rfl
  refine⟨p,dx,_,rfl,f2,sN (by decide +kernel),p,la,da,c,g,L,s_,m,ZaN L m,ZaN s_ m,ys,zs,_,_,rfl,⟨dx,f2⟩,la2,l12,r1.l sl2,l2,r2,ZaT ok.rise,ZaT ok.rise,?_,?_,?_,?_,?_,?_,?_,?_,tk2,?_⟩
  ·rw[ZbU];exact Zcs ((ZaT ok.rise).filter _)
  ·intro w;rw[ZbU,Zej]
  ·intro w;rw[ZbT,Zei]
  ·exact YAP (ZbE m4 (by omega)) (by decide)
  ·rw[←YAE (f:=(·.1)),ZbU]
   exact YAP (YAt _ _) (YAP (ZbE m4 (by have:=ex.len;omega)) (by decide))
  ·rw[←YAE (f:=(·.1)),ZbT]
   exact YAP (YAt _ _) (YAP (ZbE m4 (by omega)) (by decide))
  ·intro w hw;have:=Zcx hL hw;omega
  ·intro w hw;have:=Zcx (by have:=ex.len;omega) hw;omega
  ·intro t la3 H3 ch3 f3 nl3 e3 t3 tk3
   have np:∀us,H2 p≠some (.tup us):=fun us z=>by rw[f2]at z;cases z
   have ncp:p≠c:=n1.ne f rfl
   have ngp:p≠g:=n2.ne f1 rfl
   refine q t c g la3 H3 (sl02.chg.trans ch3) f3 e3 ⟨t3,⟨ys,ch3 _ _ l12 (by simpa using YAx ncp) rfl,(r1.l sl2).chg ch3 (fun b hb us=>by rw[YAS.mp hb];exact np us)⟩,⟨zs,ch3 _ _ l2 (by simpa using YAx ngp) rfl,r2.chg ch3 (fun b hb us=>by rw[YAS.mp hb];exact np us)⟩,n1,n2.l sl1,nl3.l sl02,ncg,nl3.ne l12 rfl,nl3.ne l2 rfl⟩ tk3
theorem ZoF:FnScope ["self","kinds"] ["self","kinds"] (Zah s_KP):=by walk_at "sc"
theorem ZmI (T:TL K mg base a tb):FnOk P w K mg base (CXr P w) 4 a.g_KP a.e_KP ["self","kinds"] (Zoe K a):=by
 refine T.fm_KP.okX ZoF (fun vs H Q E h=>?_) (fun cdv A outer s H vs Q E hr h=>?_)
 ·obtain⟨_,_,_,rfl,_⟩:=h;rfl
 ·have hu64:=hr.units
  have hu1:=ZaM hr
  obtain⟨p,dx,u,rfl,hp,q⟩:=h
  refine⟨_,(Zac (ZaW (Zan (ZmF T) (hr.mono (by decide)) rfl T.m_KS T.f_KS.kp T.b_KS .nil Zbh (Zaa (pv 1) Zab)))
   (Zaj (Zac (ZaW (Zgq rfl T.m_LQ T.cr_LQ (ZmE T) (hr.mono (by decide)) T.kp_KT T.b_KT .nil Zay (Zaa (pv 0) (Zaa (ZaO (l:=[]) (by decide +kernel)) (Zaa (pv 1) Zab)))))
   (Zaj (Zac (ZdU (pv 0) (ZbC (ZbY rfl) rfl T.z_list Zbw (Zaa (pv 1) Zab)) rfl)
   (Zaj (Zaf (ZdU (pv 0) (Zbo Zab) rfl)))))))),?_⟩
  walk_at "rd"
  rcases q with⟨m,rfl,kok,q⟩|⟨bk,x⟩
  ·have m4:=kok.m4
   refine⟨_,rfl,.inl ⟨m,rfl,by omega,kok.k,fun H1 s1=>?_⟩⟩
   show ZiU _ _ _ _
   refine Zam ?_
   walk_at "rd"
   refine⟨p,dx,_,[],m,rfl,.inr rfl,s1 _ _ hp,fun H2 f2 k2=>?_⟩
   show ZiU _ _ _ _
   refine Zam ?_
   walk_at "rd"
   refine⟨m,rfl,by omega,NewL.of fun la H3 s3 n3 l3=>?_⟩
   have f3:=s3 _ _ f2
   refine⟨p,_,dx,_,rfl,f3,T.cl_LG,T.n_Strip_own_lacking,(by show 2<1000;decide),?_⟩
   refine Zam ?_
   walk_at "rd"
   refine⟨YAz _,NewL.of fun da H4 s4 n4 l4=>?_⟩
   have nla:p≠la:=Zak f2 n3
   have kr:=kok.kinds
   have f4:=s4 _ _ (Zad (H:=H3) (a:=p) (o:=.ins a.c_LG dx (putF (Str.ofString "own_lacking") (.ref la) (putF "own_kinds" (tx m) (putF "own_text" (tx []) [])))))
   have l4':upd H3 p (.ins a.c_LG dx (putF (Str.ofString "own_lacking") (.ref la) (putF "own_kinds" (tx m) (putF "own_text" (tx []) [])))) la=some (.lst ((signs m).map tx)):=by rw[Zae (YAx nla)];exact l3
   have nda:p≠da:=Zak Zad n4
   have ned:la≠da:=Zak l4' n4
   have n3':H3 da=none:=by rw[Zae (YAx nda)]at n4;exact n4
   have back:∀b,b≠p→H2 b=none→H b=none:=fun b hb e=>by
    cases z:H1 b with
    | none=>exact s1.free z
    | some o=>rw[k2 b o z hb]at e;cases e
   refine⟨p,_,dx,_,rfl,f4,T.cl_LG,T.n_Strip_own_deeds,(by show 3<1000;decide),q la da _ ⟨⟨dx,?_⟩,?_,⟨[],?_,rfl,fun i y h=>by simp at h⟩,.nil,kr,ned⟩ (back la (YAx nla) n3) (back da (YAx nda) (s3.free n3')) fun b o hb nb=>?_⟩
   ·rw[Zad];exact congrArg (fun z=>some (HO.ins a.c_LG dx z)) ZjW
   ·rw[Zae (YAx nla),Zjr kr.rise];exact s4 _ _ l4'
   ·rw[Zae (YAx nda)];exact l4
   ·rw[Zae nb];exact s4 _ _ (by rw[Zae nb];exact s3 _ _ (k2 _ _ (s1 _ _ hb) nb))
  ·exact⟨_,rfl,.inr ⟨bk,x⟩⟩
theorem ZoH:FnScope ["self","text","kinds"] ["self","text","kinds"] (Zah s_KL):=by walk_at "sc"
theorem Zpf (T:TL K mg base a tb):FnOk P w K mg base (CXr P w) 4 a.g_KL a.e_KL ["self","text","kinds"] (Zoi K a):=by
 refine T.fm_KL.okX ZoH (fun vs H Q E h=>?_) (fun cdv A outer s H vs Q E hr h=>?_)
 ·obtain⟨_,_,_,_,rfl,_⟩:=h;rfl
 ·have hu64:=hr.units
  have hu1:=ZaM hr
  obtain⟨p,dx,l,m,rfl,hp,ok,q⟩:=h
  refine⟨_,(Zac (ZaW (Zan (ZmF T) (hr.mono (by decide)) rfl T.m_KS T.f_KS.kp T.b_KS .nil Zbh (Zaa (pv 2) Zab)))
   (Zac (ZaW (Zan (Zk1 T) (hr.mono (by decide)) rfl T.m_KZ T.f_KZ.kp T.b_KZ .nil Zbh (Zaa (pv 1) (Zaa (pv 2) (Zaa (Zcp rfl T.c_KC) Zab)))))
   (Zaf (ZaW (Zgq rfl T.m_LQ T.cr_LQ (ZmE T) (hr.mono (by decide)) T.kp_KT T.b_KT .nil Zay (Zaa (pv 0) (Zaa (pv 1) (Zaa (pv 2) Zab)))))))),?_⟩
  walk_at "rd"
  have m4:=ok.m4
  have l40:=ok.l40
  refine⟨_,rfl,.inl ⟨m,rfl,by omega,ok.k,fun H1 s1=>?_⟩⟩
  walk_at "rd?"
  refine⟨_,m,40,rfl,.inl ⟨l,rfl,by omega,Zni ok,fun H2 s2=>?_⟩⟩
  walk_at "rd?"
  exact⟨p,dx,_,l,m,rfl,.inl rfl,s1.trans s2 _ _ hp,fun H3 r k=>q H3 r fun b o e ne=>k b o (s1.trans s2 _ _ e) ne⟩
theorem ZjV:FnScope ["band","word","place","found"] ["band","word"] (Zah ZkL):=by walk_at "sc"
theorem Zmw (T:TL K mg base a tb):FnOk P w K mg base (CXr P w) 5 a.f_ask a.d_ask ["band","word"] (Zl4 K a):=by
 refine T.f_ask.okX ZjV (fun vs H Q E h=>?_) (fun cdv A outer s H vs Q E hr h=>?_)
 ·obtain⟨_,_,_,_,rfl,_⟩:=h;rfl
 ·have hu64:=hr.units
  have hu1:=ZaM hr
  obtain⟨p,l,m,v,rfl,hp,l40,bw,x⟩:=h
  refine⟨_,(Zac (Zau (i:=2) ZjV.nd rfl (Or.inl rfl) (ZdV (Zba (pv 0) T.cl_LF T.me_Plain_place_of (Zjg T) (hr.mono (by decide)) T.b_KB .nil Zbh (Zaa (pv 1) Zab)) (Zba (pv 0) T.cl_LG T.me_Strip_place_of (Zjg T) (hr.mono (by decide)) T.b_KB .nil Zbh (Zaa (pv 1) Zab))))
   (Zac ZkR
   (Zac ZkR
   (Zaf ZkR)))),?_⟩
  have bt:=hp
  obtain⟨C,dx,fs,hC,f,gt,gk,n1,n2,n3,n4,n5⟩:=hp
  walk_at "rd"
  have kk:∀ {Q':VK},ZkB K a [.ref p,v] H Q' E:=⟨p,l,m,v,rfl,bt,l40,.inr ⟨bw,x⟩⟩
  exact ZcN hC f n2 kk kk
theorem Zoz:FnScope ["strip","word"] ["strip","word"] (Zah s_KX):=by walk_at "sc"
theorem ZmC (T:TL K mg base a tb):FnOk P w K mg base (CXr P w) 5 a.f_KX a.d_KX ["strip","word"] (Zn8 K a):=by
 refine T.f_KX.okX Zoz (fun vs H Q E h=>?_) (fun cdv A outer s H vs Q E hr h=>?_)
 ·obtain⟨_,_,_,_,rfl,_⟩:=h;rfl
 ·have hu64:=hr.units
  have hu1:=ZaM hr
  obtain⟨p,l,m,v,rfl,hp,l40,q⟩:=h
  refine⟨_,(Zaf (Zaq (Zai (Zas (K:=K) rfl) rfl T.z_len ZaL (Zaa (Zan (ZmH T) (hr.mono (by decide)) rfl T.m_KQ T.f_KQ.kp T.b_KQ .nil Zbh (Zaa (pv 0) (Zaa (pv 1) Zab))) Zab)))),?_⟩
  walk_at "rd"
  rcases q with⟨w_,rfl,hw,hk,q⟩|⟨bw,x⟩
  ·refine⟨p,l,m,_,rfl,hp,l40,.inl ⟨w_,rfl,hw,hk,fun r H2 s2 l2=>⟨_,_,rfl,.inl ⟨_,.mk l2,rfl⟩,?_⟩⟩⟩
   rw[YAE]
   exact q H2 s2
  ·exact⟨p,l,m,v,rfl,hp,l40,.inr ⟨bw,x⟩⟩
theorem ZoK:FnScope ["strip","word"] ["strip","word"] (Zah s_KG):=by walk_at "sc"
theorem ZmL (T:TL K mg base a tb):FnOk P w K mg base (CXr P w) 5 a.f_KG a.d_KG ["strip","word"] (Zok K a):=by
 refine T.f_KG.okX ZoK (fun vs H Q E h=>?_) (fun cdv A outer s H vs Q E hr h=>?_)
 ·obtain⟨_,_,_,_,rfl,_⟩:=h;rfl
 ·have hu64:=hr.units
  have hu1:=ZaM hr
  obtain⟨p,l,m,v,rfl,hp,l40,q⟩:=h
  refine⟨_,(Zaf (Zaq (ZdV (Zba (pv 0) T.cl_LF T.me_Plain_place_of (Zjg T) (hr.mono (by decide)) T.b_KB .nil Zbh (Zaa (pv 1) Zab)) (Zba (pv 0) T.cl_LG T.me_Strip_place_of (Zjg T) (hr.mono (by decide)) T.b_KB .nil Zbh (Zaa (pv 1) Zab))))),?_⟩
  have bt:=hp
  obtain⟨C,dx,fs,hC,f,gt,gk,n1,n2,n3,n4,n5⟩:=hp
  walk_at "rd"
  have kk:ZkB K a [.ref p,v] H Q E:=⟨p,l,m,v,rfl,bt,l40,q⟩
  exact ZcN hC f n2 kk kk
theorem Zl8:FnScope ["strip","word","found"] ["strip","word"] (Zah s_KR):=by walk_at "sc"
theorem ZmG (T:TL K mg base a tb):FnOk P w K mg base (CXr P w) 5 a.f_KR a.d_KR ["strip","word"] (Zoc K a):=by
 refine T.f_KR.okX Zl8 (fun vs H Q E h=>?_) (fun cdv A outer s H vs Q E hr h=>?_)
 ·obtain⟨_,_,_,_,rfl,_⟩:=h;rfl
 ·have hu64:=hr.units
  have hu1:=ZaM hr
  obtain⟨p,l,m,v,rfl,hp,l40,q⟩:=h
  refine⟨_,(Zac (Zau (i:=2) Zl8.nd rfl (Or.inl rfl) (Zan (ZmH T) (hr.mono (by decide)) rfl T.m_KQ T.f_KQ.kp T.b_KQ .nil Zbh (Zaa (pv 0) (Zaa (pv 1) Zab))))
   (Zaj (Zaf (Zaq (Zgo (Zaw Zje (Zai (Zas (K:=K) rfl) rfl T.z_len ZaL (Zaa (pv 2) Zab)) Zag (Zax _)) (Zbg (Zbm (K:=K) rfl) (pv 2) (ZhU ZeI Zag) (fun _ _=>rfl)) Zb8))))),?_⟩
  walk_at "rd"
  rcases q with⟨w_,rfl,hw,hk,q⟩|⟨bw,x⟩
  ·refine⟨p,l,m,_,rfl,hp,l40,.inl ⟨w_,rfl,hw,hk,fun r H2 s2 l2=>Zam ?_⟩⟩
   walk_at "rd"
   refine⟨_,_,rfl,.inl ⟨_,.mk l2,rfl⟩,?_⟩
   rw[YAE]
   have q':=q H2 s2
   cases hg:(placesOf l w_).getLast? with
   | none=>
    rw[hg]at q'
    rw[List.getLast?_eq_none_iff.mp hg]
    exact iteF q'
   | some i=>
    rw[hg]at q'
    have hl:0<(placesOf l w_).length:=by cases h:placesOf l w_ with | nil=>rw[h]at hg;cases hg | cons a r=>simp
    rw[decide_eq_true (show (0:Int)<((placesOf l w_).length:Nat) by omega)]
    exact iteT ⟨r,_,_,_,rfl,rfl,.mk l2,ZeC (x:=.int (i:Nat)) (by rw[List.getLast?_map,hg];rfl),q'⟩
  ·exact⟨p,l,m,v,rfl,hp,l40,.inr ⟨bw,x⟩⟩
theorem ZoA:FnScope ["self","letter"] ["self","letter"] (Zah s_KW):=by walk_at "sc"
theorem ZmD (T:TL K mg base a tb):FnOk P w K mg base (CXr P w) 5 a.g_KW a.e_KW ["self","letter"] (Zn9 K a):=by
 refine T.fm_KW.okX ZoA (fun vs H Q E h=>?_) (fun cdv A outer s H vs Q E hr h=>?_)
 ·obtain⟨_,_,_,_,_,_,_,rfl,_⟩:=h;rfl
 ·have hu64:=hr.units
  have hu1:=ZaM hr
  obtain⟨p,la,da,l,m,ds,v,rfl,hp,hd,tk,q⟩:=h
  refine⟨_,(Zaj (Zac (ZaW (Zan (Zpg T) (hr.mono (by decide)) rfl T.m_KH T.f_KH.kp T.b_KH .nil Zbh (Zaa (pv 1) (Zaa (ZaK (K:=K) rfl (pv 0) rfl) Zab))))
   (Zac (ZaR (Zaw Zo3 (Zai (Zas (K:=K) rfl) rfl T.z_len ZaL (Zaa (ZaK (K:=K) rfl (pv 0) rfl) Zab)) (Zcp rfl T.c_KC) (Zax _)) (Zaj (Zaf (Zb2 ZbF rfl (Zco T.x_LS T.i_LS rfl T.m_LS (Zaa (ZaO (l:=[116,104,101,32,115,116,114,105,112,32,104,97,115,32,102,111,114,116,121,32,108,101,116,116,101,114,115]) (by decide +kernel)) Zab))))) Zav)
   (Zaj (Zac (ZaW (ZeU YBe YCJ YCI ZbD (ZaK (K:=K) rfl (pv 0) rfl) (Zaa (ZbV (Zaa (ZaO (l:=[112,117,116]) (by decide +kernel)) (Zaa (pv 1) Zab))) Zab)))
   (Zaf (Zaq (Zba (pv 0) T.cl_LG T.me_KO (ZmJ T) (hr.mono (by decide)) T.b_KO .nil Zay (Zaa (Zat ZaP (ZaK (K:=K) rfl (pv 0) rfl) (pv 1)) Zab))))))))),?_⟩
  have sz:∀k:Nat,k≤30000→k≤sizeLine:=fun k h=>YAP h (by rw[sizeLine_eq];decide)
  obtain⟨⟨dx,f⟩,hk,⟨ts,d1,d2⟩,run,ok,nld⟩:=id hp
  have m4:=ok.m4
  have l40:=run.len
  have tl:=d2.1
  have npd:p≠da:=fun z=>by rw[z,d1]at f;cases f
  walk_at "rd"
  refine Zam ?_
  walk_at "rd"
  refine⟨p,_,dx,_,_,rfl,f,T.cl_LG,T.n_Strip_own_kinds,Zck,?_⟩
  rcases q with⟨c0,rfl,hc,hl,q⟩|⟨bl,x⟩|⟨c0,rfl,hc,hl,x⟩
  ·refine⟨_,m,rfl,.inl ⟨[c0],rfl,by simp,Zin hc,fun H1 s1=>?_⟩⟩
   walk_at "rd?"
   refine⟨p,_,dx,_,_,rfl,s1 _ _ f,T.cl_LG,T.n_Strip_own_text,Za3,_,_,rfl,Zbl (by omega),?_⟩
   rw[decide_eq_false (by omega)]
   refine iteF ?_
   refine Zam ?_
   walk_at "rd"
   refine⟨p,_,dx,_,_,rfl,s1 _ _ f,T.cl_LG,T.n_Strip_own_deeds,ZbS,.inl ⟨rfl,_,.mk (s1 _ _ d1)⟩,sz _ (by decide),NewT.of fun td H2 s2 n2 l2=>?_⟩
   have s02:=s1.trans s2
   refine⟨da,_,_,rfl,rfl,s02 _ _ d1,by rw[tl];exact sz _ (by omega),?_⟩
   have c3:Chg [da] H (upd H2 da (.lst (ts++[.ref td]))):=s02.chg.trans (Chg.upd (by simp))
   have d3:upd H2 da (.lst (ts++[.ref td])) da=some (.lst (ts++[.ref td])):=Zad
   have t3:upd H2 da (.lst (ts++[.ref td])) td=some (.tup (ZfW (true,c0))):=by
    rw[Zae (fun z=>by rw[z,s02 _ _ d1]at l2;cases l2)]
    exact l2
   have tk3:=(tk.same s02).upd (o':=.lst (ts++[.ref td])) (s02 _ _ d1) rfl rfl
   generalize upd H2 da (.lst (ts++[.ref td]))=H3 at c3 d3 t3 tk3
   have e3:DeedsA H3 (ts++[.ref td]) (ds++[(true,c0)]):=(d2.chg c3 (fun b hb us z=>by rw[YAS.mp hb,d1]at z;cases z)).snoc t3
   have f3:=c3 _ _ f (by simpa using npd) rfl
   have k3:=c3 _ _ hk (by simpa using nld) rfl
   have r3:=run.put hc hl
   refine⟨p,dx,_,rfl,f3,sN (by decide +kernel),p,_,dx,_,_,rfl,f3,T.cl_LG,T.n_Strip_own_text,Za3,l,[c0],rfl,rfl,sz _ (by rw[YAp];omega),?_⟩
   refine⟨p,la,da,l,l++[c0],m,rfl,⟨dx,f3⟩,k3,r3.len,.inl ⟨c0,rfl⟩,r3.mem,ok,tk3,fun t c g la2 H4 ch f4 l4 an tk4=>?_⟩
   obtain⟨q1,q2,q3⟩:=Zc7 hp c3 d3 e3 ch f4 l4 an r3
   exact q t c g la2 H4 q1 q2 q3 tk4
  ·exact⟨_,m,rfl,.inr ⟨bl,x⟩⟩
  ·refine⟨_,m,rfl,.inl ⟨[c0],rfl,by simp,Zin hc,fun H1 s1=>?_⟩⟩
   walk_at "rd?"
   refine⟨p,_,dx,_,_,rfl,s1 _ _ f,T.cl_LG,T.n_Strip_own_text,Za3,_,_,rfl,Zbl (by omega),?_⟩
   rw[decide_eq_true (by omega)]
   refine iteT ?_
   refine Zam ?_
   walk_at "rd"
   exact⟨by decide,fun e he=>⟨e,_,none,rfl,Zad,T.x_LS,x e _ (s1.trans (ZbR he)) (.bare Zad)⟩⟩
theorem ZoG:FnScope ["self"] ["self"] (Zah s_KN):=by walk_at "sc"
theorem Zpd (T:TL K mg base a tb):FnOk P w K mg base (CXr P w) 5 a.g_KN a.e_KN ["self"] (Zog K a):=by
 refine T.fm_KN.okX ZoG (fun vs H Q E h=>?_) (fun cdv A outer s H vs Q E hr h=>?_)
 ·obtain⟨_,_,_,_,_,_,rfl,_⟩:=h;rfl
 ·have hu64:=hr.units
  have hu1:=ZaM hr
  obtain⟨p,la,da,l,m,ds,rfl,hp,hd,tk,q⟩:=h
  refine⟨_,(Zaj (Zac (ZaR (Zaw (ZaH (K:=K) rfl hu64) (ZaK (K:=K) rfl (pv 0) rfl) (ZaO (l:=[]) (by decide +kernel)) (Zax _)) (Zaf (Zb2 ZbF rfl (Zco T.x_LR T.i_LR rfl T.m_LR (Zaa (ZaO (l:=[116,104,101,32,115,116,114,105,112,32,104,97,115,32,110,111,32,108,101,116,116,101,114]) (by decide +kernel)) Zab)))) Zav)
   (Zaj (Zac (ZaW (ZeU YBe YCJ YCI ZbD (ZaK (K:=K) rfl (pv 0) rfl) (Zaa (ZbV (Zaa (ZaO (l:=[100,114,111,112]) (by decide +kernel)) (Zaa (Zbg ZcH (ZaK (K:=K) rfl (pv 0) rfl) Zag (fun _ _=>rfl)) Zab))) Zab)))
   (Zaf (Zaq (Zba (pv 0) T.cl_LG T.me_KF (ZmM T) (hr.mono (by decide)) T.b_KF .nil Zay (Zaa (ZaC Zbz (ZaK (K:=K) rfl (pv 0) rfl) (ZaE Zag) Za0) Zab)))))))),?_⟩
  have sz:∀k:Nat,k≤30000→k≤sizeLine:=fun k h=>YAP h (by rw[sizeLine_eq];decide)
  obtain⟨⟨dx,f⟩,hk,⟨ts,d1,d2⟩,run,ok,nld⟩:=id hp
  have m4:=ok.m4
  have l40:=run.len
  have tl:=d2.1
  have npd:p≠da:=fun z=>by rw[z,d1]at f;cases f
  walk_at "rd"
  refine Zam ?_
  walk_at "rd"
  refine⟨p,_,dx,_,_,rfl,f,T.cl_LG,T.n_Strip_own_text,Za3,.inl ⟨rfl,?_⟩⟩
  rw[YAJ YAC,ZcV]
  rcases q with⟨c0,l0,rfl,q⟩|⟨rfl,x⟩
  ·rw[decide_eq_false (by simp)]
   refine⟨_,rfl,iteF ?_⟩
   refine Zam ?_
   walk_at "rd"
   refine⟨p,_,dx,_,_,rfl,f,T.cl_LG,T.n_Strip_own_deeds,ZbS,.inl ⟨rfl,_,.mk d1⟩,p,_,dx,_,_,rfl,f,T.cl_LG,T.n_Strip_own_text,Za3,c0::l0,0,c0,rfl,rfl,sz _ (by omega),atI0,sz _ (by decide),NewT.of fun td H2 s2 n2 l2=>?_⟩
   refine⟨da,_,_,rfl,rfl,s2 _ _ d1,by rw[tl];exact sz _ (by omega),?_⟩
   have c3:Chg [da] H (upd H2 da (.lst (ts++[.ref td]))):=s2.chg.trans (Chg.upd (by simp))
   have d3:upd H2 da (.lst (ts++[.ref td])) da=some (.lst (ts++[.ref td])):=Zad
   have t3:upd H2 da (.lst (ts++[.ref td])) td=some (.tup (ZfW (false,c0))):=by
    rw[Zae (fun z=>by rw[z,s2 _ _ d1]at l2;cases l2)]
    exact l2
   have tk3:=(tk.same s2).upd (o':=.lst (ts++[.ref td])) (s2 _ _ d1) rfl rfl
   generalize upd H2 da (.lst (ts++[.ref td]))=H3 at c3 d3 t3 tk3
   have e3:DeedsA H3 (ts++[.ref td]) (ds++[(false,c0)]):=(d2.chg c3 (fun b hb us z=>by rw[YAS.mp hb,d1]at z;cases z)).snoc t3
   have f3:=c3 _ _ f (by simpa using npd) rfl
   have k3:=c3 _ _ hk (by simpa using nld) rfl
   refine⟨p,dx,_,rfl,f3,sN (by decide +kernel),p,_,dx,_,_,rfl,f3,T.cl_LG,T.n_Strip_own_text,Za3,_,rfl,c0::l0,rfl,sz _ (by omega),?_⟩
   rw[Zf0]
   refine⟨p,la,da,l0,c0::l0,m,rfl,⟨dx,f3⟩,k3,l40,.inr ⟨c0,rfl⟩,run.mem,ok,tk3,fun t c g la2 H4 ch f4 l4 an tk4=>?_⟩
   obtain⟨q1,q2,q3⟩:=Zc7 hp c3 d3 e3 ch f4 l4 an run.drop
   exact q t c g la2 H4 q1 q2 q3 tk4
  ·rw[decide_eq_true rfl]
   refine⟨_,rfl,iteT ?_⟩
   exact⟨by decide,fun e he=>⟨e,_,none,rfl,Zad,T.x_LR,x e _ (ZbR he) (.bare Zad)⟩⟩
theorem Zl9:FnScope ["self","deed"] ["self"] (Zah s_KM):=by walk_at "sc"
theorem Zpe (T:TL K mg base a tb):FnOk P w K mg base (CXr P w) 5 a.g_KM a.e_KM ["self"] (Zoh K a):=by
 refine T.fm_KM.okX Zl9 (fun vs H Q E h=>?_) (fun cdv A outer s H vs Q E hr h=>?_)
 ·obtain⟨_,_,_,_,_,_,rfl,_⟩:=h;rfl
 ·have hu64:=hr.units
  have hu1:=ZaM hr
  obtain⟨p,la,da,l,m,ds,rfl,hp,hd,tk,q⟩:=h
  refine⟨_,(Zaj (Zac (ZaR (Zaw (ZaH (K:=K) rfl hu64) (Zai (Zas (K:=K) rfl) rfl T.z_len ZaL (Zaa (ZaK (K:=K) rfl (pv 0) rfl) Zab)) Zag (Zax _)) (Zaf (Zb2 ZbF rfl (Zco T.x_K7 T.i_K7 rfl T.m_K7 (Zaa (ZaO (l:=[116,104,101,114,101,32,105,115,32,110,111,32,100,101,101,100,32,116,104,97,116,32,115,116,97,110,100,115]) (by decide +kernel)) Zab)))) Zav)
   (Zaj (Zac (Zau (i:=1) Zl9.nd rfl (Or.inl rfl) (Zj2 YBe PySem.F.slot_list_pop PySem.F.type_list_pop ZmT (ZaK (K:=K) rfl (pv 0) rfl)))
   (Zaj (Zac (ZaR (Zaw (ZaH (K:=K) rfl hu64) (Zbg (Zen (K:=K) rfl) (pv 1) Zag (fun _ _=>rfl)) (ZaO (l:=[112,117,116]) (by decide +kernel)) (Zax _)) (Zaf (Zaq (Zba (pv 0) T.cl_LG T.me_KF (ZmM T) (hr.mono (by decide)) T.b_KF .nil Zay (Zaa (ZaC Zbz (ZaK (K:=K) rfl (pv 0) rfl) Za0 (ZaE (ZhU ZeI Zag))) Zab)))) Zav)
   (Zaf (Zaq (Zba (pv 0) T.cl_LG T.me_KO (ZmJ T) (hr.mono (by decide)) T.b_KO .nil Zay (Zaa (Zat ZaP (Zbg (Zen (K:=K) rfl) (pv 1) Zag (fun _ _=>rfl)) (ZaK (K:=K) rfl (pv 0) rfl)) Zab)))))))))),?_⟩
  have sz:∀k:Nat,k≤30000→k≤sizeLine:=fun k h=>YAP h (by rw[sizeLine_eq];decide)
  obtain⟨⟨dx,f⟩,hk,⟨ts,d1,d2⟩,run,ok,nld⟩:=id hp
  have m4:=ok.m4
  have l40:=run.len
  have tl:=d2.1
  have npd:p≠da:=fun z=>by rw[z,d1]at f;cases f
  walk_at "rd"
  refine Zam ?_
  walk_at "rd"
  refine⟨p,_,dx,_,_,rfl,f,T.cl_LG,T.n_Strip_own_deeds,ZbS,_,_,rfl,.inl ⟨_,.mk d1,rfl⟩,.inl ⟨rfl,?_⟩⟩
  rw[YAJ YAC]
  have pop:∀(ds0:List (Bool×Nat)) (d:Bool×Nat),ds=ds0++[d]→∃ts' td,ts=ts'++[.ref td]∧H td=some (.tup (ZfW d))∧DeedsA H ts' ds0:=fun ds0 d e=>(e▸d2).init
  have ne0:ds≠[]→decide (V.int ((ts.length:Nat):Int)=V.int 0)=false:=fun h=>decide_eq_false fun e=>by
   injection e with e
   rw[tl]at e
   exact h (YCx.mp (by omega))
  have go:∀(ds0:List (Bool×Nat)) (d:Bool×Nat),ds=ds0++[d]→∃td H3 ts',Chg [da] H H3∧H3 da=some (.lst ts')∧DeedsA H3 ts' ds0∧H3 td=some (.tup (ZfW d))∧TblOk H3 a.t_K1 lpos lq∧ts[ts.length-1]?=some (.ref td)∧upd H da (.lst ts.dropLast)=H3:=fun ds0 d e=>by
   obtain⟨ts',td,rfl,h1,h2⟩:=pop ds0 d e
   refine⟨td,_,ts',Chg.upd (by simp),by rw[Zad,YCk],?_,?_,tk.upd d1 rfl rfl,by simp,rfl⟩
   ·exact h2.chg (S:=[da]) (Chg.upd (by simp)) (fun b hb us z=>by rw[YAS.mp hb,d1]at z;cases z)
   ·rw[Zae (fun z=>by rw[z,d1]at h1;cases h1)];exact h1
  rcases q with⟨ds0,c0,l0,e0,rfl,q⟩|⟨ds0,c0,e0,q⟩|⟨rfl,x⟩
  ·rw[ne0 (by rw[e0];simp)]
   refine⟨_,rfl,iteF ?_⟩
   refine Zam ?_
   walk_at "rd"
   obtain⟨td,H3,ts',c3,d3,e3,t3,tk3,hy,eH⟩:=go ds0 (true,c0) e0
   refine⟨p,_,dx,_,_,rfl,f,T.cl_LG,T.n_Strip_own_deeds,ZbS,.inl ⟨rfl,_,.mk d1⟩,da,_,_,rfl,rfl,d1,hy,?_⟩
   rw[eH]
   refine Zam ?_
   walk_at "rd"
   have f3:=c3 _ _ f (by simpa using npd) rfl
   have k3:=c3 _ _ hk (by simpa using nld) rfl
   have run0:Run m ds0 l0:=by
    obtain⟨ds1,c1,⟨e1,l1,e2,r1⟩|⟨e1,_⟩⟩:=run.last (by rw[e0];simp)
    ·rw[e0]at e1
     have e3:=List.append_inj' e1 rfl
     have e4:=List.append_inj' e2 rfl
     rw[e3.1,e4.1];exact r1
    ·rw[e0]at e1
     have e3:=(List.append_inj' e1 rfl).2
     cases e3
   refine⟨td,_,_,_,rfl,rfl,.mk t3,atI0,.inl ⟨rfl,true,?_,iteT ?_⟩⟩
   ·rw[YAJ YAC];exact congrArg V.bl (decide_eq_true rfl)
   ·refine⟨p,dx,_,rfl,f3,sN (by decide +kernel),p,_,dx,_,_,rfl,f3,T.cl_LG,T.n_Strip_own_text,Za3,_,rfl,l0++[c0],rfl,sz _ (by omega),?_⟩
    rw[ZiD,YCk]
    refine⟨p,la,da,l0,l0++[c0],m,rfl,⟨dx,f3⟩,k3,l40,.inl ⟨c0,rfl⟩,run.mem,ok,tk3,fun t c g la2 H4 ch f4 l4 an tk4=>?_⟩
    obtain⟨q1,q2,q3⟩:=Zc7 hp c3 d3 e3 ch f4 l4 an run0
    exact q t c g la2 H4 q1 q2 q3 tk4
  ·rw[ne0 (by rw[e0];simp)]
   refine⟨_,rfl,iteF ?_⟩
   refine Zam ?_
   walk_at "rd"
   obtain⟨td,H3,ts',c3,d3,e3,t3,tk3,hy,eH⟩:=go ds0 (false,c0) e0
   refine⟨p,_,dx,_,_,rfl,f,T.cl_LG,T.n_Strip_own_deeds,ZbS,.inl ⟨rfl,_,.mk d1⟩,da,_,_,rfl,rfl,d1,hy,?_⟩
   rw[eH]
   refine Zam ?_
   walk_at "rd"
   have f3:=c3 _ _ f (by simpa using npd) rfl
   have k3:=c3 _ _ hk (by simpa using nld) rfl
   have run0:Run m ds0 (c0::l):=by
    obtain⟨ds1,c1,⟨e1,l1,e2,r1⟩|⟨e1,r1⟩⟩:=run.last (by rw[e0];simp)
    ·rw[e0]at e1
     have e3:=(List.append_inj' e1 rfl).2
     cases e3
    ·rw[e0]at e1
     have e3:=List.append_inj' e1 rfl
     have e4:=e3.2
     injection e4 with e4 _
     injection e4 with _ e4
     rw[e3.1,e4];exact r1
   have l41:=run0.len
   rw[YAn]at l41
   refine⟨td,_,_,_,rfl,rfl,.mk t3,atI0,.inl ⟨rfl,false,?_,iteF ?_⟩⟩
   ·rw[YAJ YAC];exact congrArg V.bl (show decide (tx DROP=tx [112,117,116])=false by rw[ZcV];decide)
   ·refine⟨p,dx,_,rfl,f3,sN (by decide +kernel),td,_,_,_,rfl,rfl,.mk t3,rfl,p,_,dx,_,_,rfl,f3,T.cl_LG,T.n_Strip_own_text,Za3,[c0],l,rfl,rfl,sz _ (by rw[YAp];omega),?_⟩
    refine⟨p,la,da,l,c0::l,m,rfl,⟨dx,f3⟩,k3,run0.len,.inr ⟨c0,rfl⟩,run0.mem,ok,tk3,fun t c g la2 H4 ch f4 l4 an tk4=>?_⟩
    obtain⟨q1,q2,q3⟩:=Zc7 hp c3 d3 e3 ch f4 l4 an run0
    exact q t c g la2 H4 q1 q2 q3 tk4
  ·have tz:ts.length=0:=by rw[tl];rfl
   rw[tz]
   refine⟨_,rfl,?_⟩
   rw[show decide (V.int ((0:Nat):Int)=V.int 0)=true from decide_eq_true rfl]
   exact iteT ⟨by decide,fun e he=>⟨e,_,none,rfl,Zad,T.x_K7,x e _ (ZbR he) (.bare Zad)⟩⟩
theorem Zi1:FnScope ["_law_band","_law_row","_law_words","_law_word_here","_law_some","_law_ends"] ["_law_band","_law_row","_law_words"] (Zah s_LP):=by walk_at "sc"
theorem ZhY (T:TL K mg base a tb):FnOk P w K mg base CX0 6 a.f_LP a.d_LP ["_law_band","_law_row","_law_words"] (ZnS K a):=by
 refine T.f_LP.ok Zi1 (fun vs H Q E h=>?_) (fun cdv A outer s H vs Q E hr h=>?_)
 ·obtain⟨_,_,_,_,_,rfl,_⟩:=h;rfl
 ·have hu64:=hr.units
  have hu1:=ZaM hr
  obtain⟨p,pw,l,m,ws,rfl,hp,ok,hpw,wsl,wsm,q⟩:=h
  refine⟨_,(Zac (ZbA YBN rfl (Zbj (K:=K) rfl (pv 2)) (ZaF (i:=3) Zi1.nd rfl (Or.inl rfl))
   (Zaj (Zac (Zau (i:=4) Zi1.nd rfl (Or.inl rfl) (Zan (Zpi T) (hr.mono (by decide)) rfl T.m_K6 T.f_K6.kp T.b_K6 .nil Zay (Zaa (pv 1) (Zaa (pv 3) Zab))))
   (Zaj (Zac (Zau (i:=5) Zi1.nd rfl (Or.inl rfl) (Zbo (Zaa (Zbg (Zbm (K:=K) rfl) (Zat ZeY (pv 4) (Zbo (Zaa Zb8 Zab))) Zag (fun _ _=>rfl)) (Zaa (Zbg (Zbm (K:=K) rfl) (Zat ZeY (Zbo (Zaa Zb8 Zab)) (pv 4)) (ZhU ZeI Zag) (fun _ _=>rfl)) Zab))))
   (Zaj (Zac (ZaR (Zbq (Za5 (Zan (Zmx T) (hr.mono (by decide)) rfl T.m_LK T.f_LK.kp T.b_LK .nil Zay (Zaa (Zbo (Zaa (Zan (ZmL T) (hr.mono (by decide)) rfl T.m_KG T.f_KG.kp T.b_KG .nil Zbt (Zaa (pv 0) (Zaa (pv 3) Zab))) (Zaa (Zan (ZmG T) (hr.mono (by decide)) rfl T.m_KR T.f_KR.kp T.b_KR .nil Zbt (Zaa (pv 0) (Zaa (pv 3) Zab))) Zab))) (Zaa (pv 5) Zab))))) (Zaf (Zaq Zbp)) Zav)
   (Zaj (Zaf (ZaR (Zbq (Za5 (Zan (Zmx T) (hr.mono (by decide)) rfl T.m_LK T.f_LK.kp T.b_LK .nil Zay (Zaa (Zan (ZmC T) (hr.mono (by decide)) rfl T.m_KX T.f_KX.kp T.b_KX .nil Zbt (Zaa (pv 0) (Zaa (pv 3) Zab))) (Zaa (Zai (Zas (K:=K) rfl) rfl T.z_len ZaL (Zaa (pv 4) Zab)) Zab))))) (Zaf (Zaq Zbp)) Zav))))))))))
   (Zaj (Zaf (Zaq (ZaX (ZaH (K:=K) rfl hu64) (ZdV (Zbk (pv 0) T.cl_LF T.me_Plain_text (Zh0 T) (hr.mono (by decide)) T.b_KU .nil Zay) (Zbk (pv 0) T.cl_LG T.me_Strip_text (Zh0 T) (hr.mono (by decide)) T.b_KU .nil Zay)) (pv 1) (Zax _)))))),?_⟩
  have sz:∀k:Nat,k≤9000→k≤sizeLine:=fun k h=>YAP h (by rw[sizeLine_eq];decide)
  have l40:=ok.l40
  walk_at "rd"
  refine⟨pw,rfl,⟨_,.mk hpw⟩,ForRun.list (xs:=ws.map tx) (fun i σ H'=>∃v3 v4 v5,σ=[some (.ref p),some (tx l),some (.ref pw),v3,v4,v5]∧Same H H') ⟨_,_,_,rfl,Same.refl _⟩ (fun i σ H' _ ⟨_,_,_,_,s'⟩=>.mk (s' _ _ hpw)) ?_ ?_⟩
  ·rintro i x σ H1 hx ⟨v3,v4,v5,rfl,s1⟩
   rw[YAo]at hx
   obtain⟨w,hw,rfl⟩:=Option.map_eq_some_iff.mp hx
   obtain⟨w60,wm⟩:=wsm w (YAr hw)
   have hk:=Znj wm w60
   have pl:(placesOf l w).length≤41:=by
    unfold placesOf
    refine YAP (YAt ..) ?_
    rw[YBV]
    omega
   walk_at "rd"
   refine Zam ?_
   walk_at "rd"
   refine⟨l,w,rfl,l40,w60,fun r2 H2 s2 n2 l2=>Zam ?_⟩
   walk_at "rd"
   refine⟨sz _ (by decide),NewL.of fun r3 H3 s3 n3 l3=>?_⟩
   have l23:=s3 _ _ l2
   refine⟨r2,r3,_,_,rfl,rfl,l23,l3,sz _ (by simp;omega),fun r4 n4=>?_⟩
   have s4:=Zaz (o:=HO.lst ((placesOf l w).map (fun (i:Nat)=>V.int i)++[.non])) n4
   refine⟨r4,_,_,_,rfl,rfl,.mk Zad,ZlF _,sz _ (by decide),?_⟩
   generalize upd H3 r4 (.lst ((placesOf l w).map (fun (i:Nat)=>V.int i)++[.non]))=H4 at s4
   refine NewL.of fun r5 H5 s5 n5 l5=>?_
   have l25:=s5 _ _ (s4 _ _ l23)
   refine⟨r5,r2,_,_,rfl,rfl,l5,l25,sz _ (by simp;omega),fun r6 n6=>?_⟩
   have s6:=Zaz (o:=HO.lst ([V.non]++(placesOf l w).map (fun (i:Nat)=>V.int i))) n6
   refine⟨r6,_,_,_,rfl,rfl,.mk Zad,ZlE _,sz _ (by decide),?_⟩
   generalize upd H5 r6 (.lst ([V.non]++(placesOf l w).map (fun (i:Nat)=>V.int i)))=H6 at s6
   refine NewL.of fun r7 H7 s7 n7 l7=>Zam ?_
   have s27:=s3.trans (s4.trans (s5.trans (s6.trans s7)))
   have s17:=s2.trans s27
   have bt7:=((hp.same s1).same s17).t
   walk_at "rd"
   refine⟨p,l,m,_,rfl,bt7,l40,.inl ⟨w,rfl,by omega,hk,fun H8 s8=>⟨p,l,m,_,rfl,bt7.same s8,l40,.inl ⟨w,rfl,by omega,hk,fun H9 s9=>⟨sz _ (by decide),NewL.of fun rA HA sA nA lA=>?_⟩⟩⟩⟩⟩
   refine⟨_,_,rfl,.inr ⟨rA,r7,_,rfl,rfl,lA,(s8.trans (s9.trans sA)) _ _ l7,by show (2:Nat)≤100;decide,fun x hx=>?_⟩,fun HB sB=>⟨true,rfl,iteF (Zam ?_)⟩⟩
   ·rcases YAK.mp hx with rfl | hx
    ·exact Zgl _
    ·rw[YAS.mp hx];exact Zgl _
   have s7B:=s8.trans (s9.trans (sA.trans sB))
   walk_at "rd"
   refine⟨p,l,m,_,rfl,bt7.same s7B,l40,.inl ⟨w,rfl,by omega,hk,fun HC sC=>⟨_,_,rfl,.inl ⟨_,.mk ((s27.trans (s7B.trans sC)) _ _ l2),rfl⟩,_,_,rfl,.inl ⟨_,rfl,by rw[YAE]⟩,fun HD sD=>⟨true,rfl,iteF ⟨_,_,_,rfl,s1.trans (s17.trans (s7B.trans (sC.trans sD)))⟩⟩⟩⟩⟩
  ·rintro σ H1 ⟨v3,v4,v5,rfl,s1⟩
   walk_at "rd?"
   refine Zam ?_
   walk_at "rd"
   obtain⟨C,dx,fs,hC,f,gt,gk,n1,n2,n3,n4,_⟩:=id (hp.same s1).t
   have tt:=(hp.same s1).t.text
   have fin:∀ {Q':VK},Q' (tx l) H1→ZkA K a [.ref p] H1 Q' E0:=fun hq=>⟨p,l,rfl,tt,hq⟩
   refine ZcN hC f n1 (fin ?_) (fin ?_)
   all_goals exact .inl ⟨rfl,by rw[YAJ YAC,decide_eq_true rfl];exact q H1 s1⟩
theorem Zi2:FnScope ["_law_way","_law_strip","_law_thing","_law_caught_here","e"] ["_law_way","_law_strip","_law_thing"] (Zah s_K9):=by walk_at "sc"
theorem Zph (T:TL K mg base a tb):FnOk P w K mg base CX0 6 a.f_K9 a.d_K9 ["_law_way","_law_strip","_law_thing"] (Zoo K a):=by
 refine T.f_K9.ok Zi2 (fun vs H Q E h=>?_) (fun cdv A outer s H vs Q E hr h=>?_)
 ·obtain⟨_,_,_,_,_,rfl,_⟩:=h;rfl
 ·have hu64:=hr.units
  have hu1:=ZaM hr
  obtain⟨c,p,l,m,v,rfl,hp,l40,bw,q⟩:=h
  refine⟨_,(Zac (Zau (i:=3) Zi2.nd rfl (Or.inl rfl) Zb8)
   (Zaj (Zac (Zmm rfl rfl (ZbJ (ZhP (Zaw (ZaH (K:=K) rfl hu64) (pv 0) Zag (Zax _)) (ZbJ (Zc4 (Zc6 (Zmw T) (hr.mono (by decide)) rfl T.m_ask T.f_ask.kp T.b_ask .nil (Zaa (pv 1) (Zaa (pv 2) Zab))))) (ZbJ (ZhP (Zaw (ZaH (K:=K) rfl hu64) (pv 0) Zag (Zax _)) (ZbJ (Zc4 (Zc6 (ZmC T) (hr.mono (by decide)) rfl T.m_KX T.f_KX.kp T.b_KX .nil (Zaa (pv 1) (Zaa (pv 2) Zab))))) (ZbJ (ZhP (Zaw (ZaH (K:=K) rfl hu64) (pv 0) Zag (Zax _)) (ZbJ (Zc4 (Zc6 (ZmL T) (hr.mono (by decide)) rfl T.m_KG T.f_KG.kp T.b_KG .nil (Zaa (pv 1) (Zaa (pv 2) Zab))))) (ZbJ (Zc4 (Zc6 (ZmG T) (hr.mono (by decide)) rfl T.m_KR T.f_KR.kp T.b_KR .nil (Zaa (pv 1) (Zaa (pv 2) Zab))))))))))) (Zo0 (i:=4) (fun _=>hr.hd) rfl T.m_KV Zi2.nd rfl rfl (fun _=>(Zaf (Zau (i:=3) Zi2.nd rfl (Or.inl rfl) (pv 4)))) Zmn))
   (Zaf (Zaq (pv 3)))))),?_⟩
  walk_at "rd"
  refine Zam ?_
  walk_at "rd"
  have up:∀C e H2,PySem.W.exmOne K (.ref C) (.ref a.c_KV)=some true→Q (.ref e) H2→(∃e_1 C_1,Value.ref C=Value.ref C_1∧some e=some e_1∧∃b,PySem.W.exmOne K (.ref C_1) (.ref a.c_KV)=some b∧if b=true then Q (.ref e_1) H2 else False):=fun C e H2 h q=>⟨e,C,rfl,rfl,true,h,iteT q⟩
  have xw:=Zlv (b:=true) T.k_K8 T.k_KV (by simp[YCB]) (by simp[YCB])
  refine .inl ⟨rfl,_,rfl,ite2 (fun _=>?_) (fun _=>.inl ⟨rfl,_,rfl,ite2 (fun _=>?_) (fun _=>.inl ⟨rfl,_,rfl,ite2 (fun _=>?_) (fun _=>?_)⟩)⟩)⟩
  ·exact⟨p,l,m,v,rfl,hp,l40,bw,fun e H2 s2 x=>up _ e H2 xw (q e H2 s2 x)⟩
  all_goals exact⟨p,l,m,v,rfl,hp,l40,.inr ⟨bw,fun e H2 s2 x=>up _ e H2 xw (q e H2 s2 x)⟩⟩
theorem ZfH:FnScope ["_law_text_here","_law_kinds_here","_law_cell_here","_law_right_here","_law_strip","_law_cut","_law_many","_law_letter","_law_lap"] ["_law_text_here","_law_kinds_here","_law_cell_here","_law_right_here"] (Zah s_LO):=by walk_at "sc"
theorem Zo6 (T:TL K mg base a tb):FnOk P w K mg base CX0 8 a.f_LO a.d_LO ["_law_text_here","_law_kinds_here","_law_cell_here","_law_right_here"] (ZnT K a):=by
 refine T.f_LO.ok ZfH (fun vs H Q E h=>?_) (fun cdv A outer s H vs Q E hr h=>?_)
 ·obtain⟨_,_,_,_,_,_,_,rfl,_⟩:=h;rfl
 ·have hu64:=hr.units
  have hu1:=ZaM hr
  obtain⟨l,m,c,g,cc,pw,ws,rfl,ok,tk,lam,hpw,wsl,wsm,q⟩:=h
  refine⟨_,(Zac (Zau (i:=4) ZfH.nd rfl (Or.inl rfl) (ZfJ T.mk_LG (ZmI T) (hr.mono (by decide)) rfl T.m_LG T.b_KP .nil Zbt (Zaa (pv 1) Zab)))
   (Zaj (Zac (Zau (i:=5) ZfH.nd rfl (Or.inl rfl) (Zat ZaQ (pv 2) (Zat Za6 (Zai (Zas (K:=K) rfl) rfl T.z_len ZaL (Zaa (pv 0) Zab)) Zag)))
   (Zaj (Zac (Zau (i:=6) ZfH.nd rfl (Or.inl rfl) (Zat ZaQ (Zat Za1 (pv 2) Zag) (Zat Za6 (Zai (Zas (K:=K) rfl) rfl T.z_len ZaL (Zaa (pv 0) Zab)) Zag)))
   (Zaj (Zac (ZbA YBN rfl (Zdm (ZaC Zbz (pv 0) Za0 (ZaE (pv 5)))) (ZaF (i:=7) ZfH.nd rfl (Or.inl rfl))
   (Zaf (ZaW (Zba (pv 4) T.cl_LG T.me_KW (ZmD T) (hr.mono (by decide)) T.b_KW .nil Zbt (Zaa (pv 7) Zab)))))
   (Zaj (Zac (ZaR (Zbq (Za5 (Zcq (k:=6) (q:=lqL) (params:=lamL.1) (body:=lamL.2.1) (scope:=lamL.2.2) (fr:="_law_words") (N:=["_law_band","_law_row","_law_words"]) (ps:=["_law_band","_law_row"]) (hr.mono (by decide)) (pv 3) Zeb (fun _ us _ _ _ _ hl=>by match us,hl with | [x,y],_=>exact .of_eq rfl) (fun _ _ _ _ _ _ _ hr2=>Zan (ZhY T) (hr2.mono (by decide)) rfl T.m_LP T.f_LP.kp T.b_LP .nil Zay (Zaa (pv 0) (Zaa (pv 1) (Zaa (pv 2) Zab)))) (Zaa (pv 4) (Zaa (ZaC Zbz (pv 0) Za0 (ZaE (pv 5))) Zab))))) (Zaf (Zaq Zbp)) Zav)
   (Zaj (Zac (ZbA YBN rfl (Zdm (ZaC Zbz (pv 0) (ZaE (pv 5)) Za0)) (ZaF (i:=7) ZfH.nd rfl (Or.inl rfl))
   (Zaf (ZaW (Zba (pv 4) T.cl_LG T.me_KW (ZmD T) (hr.mono (by decide)) T.b_KW .nil Zbt (Zaa (pv 7) Zab)))))
   (Zaj (Zac (ZaR (Zbq (Za5 (Zcq (k:=6) (q:=lqL) (params:=lamL.1) (body:=lamL.2.1) (scope:=lamL.2.2) (fr:="_law_words") (N:=["_law_band","_law_row","_law_words"]) (ps:=["_law_band","_law_row"]) (hr.mono (by decide)) (pv 3) Zeb (fun _ us _ _ _ _ hl=>by match us,hl with | [x,y],_=>exact .of_eq rfl) (fun _ _ _ _ _ _ _ hr2=>Zan (ZhY T) (hr2.mono (by decide)) rfl T.m_LP T.f_LP.kp T.b_LP .nil Zay (Zaa (pv 0) (Zaa (pv 1) (Zaa (pv 2) Zab)))) (Zaa (pv 4) (Zaa (pv 0) Zab))))) (Zaf (Zaq Zbp)) Zav)
   (Zaj (Zac (ZbA YBN rfl (ZbB rfl T.z_range (Zaa (pv 6) Zab)) (ZaF (i:=8) ZfH.nd rfl (Or.inl rfl))
   (Zaf (ZaW (Zbk (pv 4) T.cl_LG T.me_KN (Zpd T) (hr.mono (by decide)) T.b_KN .nil Zbt))))
   (Zaj (Zac (ZaR (Zbq (Za5 (Zcq (k:=6) (q:=lqL) (params:=lamL.1) (body:=lamL.2.1) (scope:=lamL.2.2) (fr:="_law_words") (N:=["_law_band","_law_row","_law_words"]) (ps:=["_law_band","_law_row"]) (hr.mono (by decide)) (pv 3) Zeb (fun _ us _ _ _ _ hl=>by match us,hl with | [x,y],_=>exact .of_eq rfl) (fun _ _ _ _ _ _ _ hr2=>Zan (ZhY T) (hr2.mono (by decide)) rfl T.m_LP T.f_LP.kp T.b_LP .nil Zay (Zaa (pv 0) (Zaa (pv 1) (Zaa (pv 2) Zab)))) (Zaa (pv 4) (Zaa (ZaC Zbz (pv 0) (ZaE (pv 6)) Za0) Zab))))) (Zaf (Zaq Zbp)) Zav)
   (Zaj (Zac (ZaR (Zaw Zje (pv 6) Zag (Zax _)) (Zac (ZaW (Zbk (pv 4) T.cl_LG T.me_KM (Zpe T) (hr.mono (by decide)) T.b_KM .nil Zbt))
   (Zaf (Zaq (Zcq (k:=6) (q:=lqL) (params:=lamL.1) (body:=lamL.2.1) (scope:=lamL.2.2) (fr:="_law_words") (N:=["_law_band","_law_row","_law_words"]) (ps:=["_law_band","_law_row"]) (hr.mono (by decide)) (pv 3) Zeb (fun _ us _ _ _ _ hl=>by match us,hl with | [x,y],_=>exact .of_eq rfl) (fun _ _ _ _ _ _ _ hr2=>Zan (ZhY T) (hr2.mono (by decide)) rfl T.m_LP T.f_LP.kp T.b_LP .nil Zay (Zaa (pv 0) (Zaa (pv 1) (Zaa (pv 2) Zab)))) (Zaa (pv 4) (Zaa (ZaC Zbz (pv 0) (ZaE (Zat Zgr (pv 6) Zag)) Za0) Zab)))))) Zav)
   (Zaf (Zaq Zbp))))))))))))))))))))),?_⟩
  have sz:∀k:Nat,k≤9000→k≤sizeLine:=fun k h=>YAP h (by rw[sizeLine_eq];decide)
  have l40:=ok.l40
  have lm:=ok.mem
  have kok:=ok.kok
  walk_at "rd"
  intro p dx np ndx ne
  refine⟨p,dx,_,rfl,Zad,.inl ⟨m,rfl,kok,fun la0 da H1 at1 nla nda k1=>⟨rfl,Zam ?_⟩⟩⟩
  have s1:Same H H1:=fun b o e=>k1 b o (by rw[Zae (Zak e np),Zae (Zak e ndx)];exact e) (Zak e np)
  have tk1:=tk.same s1
  have lw1:LW H H1 g cc pw ws:=(show LW H H g cc pw ws from⟨lam,hpw,SameL.refl _⟩).same s1
  have s0:Same H (upd (upd H dx (.own p)) p (.ins a.c_LG dx [])):=fun b o e=>by rw[Zae (Zak e np),Zae (Zak e ndx)];exact e
  have nda0:H da=none:=s0.free nda
  have npd:pw≠da:=Zak hpw nda0
  have pre:∀ {H':Hp} {la:Addr} {l':List Nat} {ds:List (Bool×Nat)},StripAt a.c_LG H' p la da l' m ds→LW H H' g cc pw ws→BandAt a (unf H' cc) p l' m∧StripOk l' m∧unf H' cc pw=some (.lst (ws.map tx)):=fun {H' la l' ds} r lw=>by
   have hcc:∃o u,H' cc=some (.frz o u):=by obtain⟨o,u,pm,ctv,c',_,_,h,_⟩:=lw.1;exact⟨_,_,h⟩
   exact⟨.inr ⟨la,da,ds,ZhA r hcc⟩,ZhB r,ZeH hcc lw.2.1 (fun _ _ z=>nomatch z)⟩
  walk_at "rd"
  have cutN:∀x:Int,∃n:Nat,x % ((l.length:Nat)+1)=(n:Int)∧n≤l.length:=fun x=>⟨(x % ((l.length:Nat)+1)).toNat,by have:=YBu x (show (((l.length:Nat):Int)+1)≠0 by omega);omega,by have:=YBm x (show (0:Int)<((l.length:Nat):Int)+1 by omega);omega⟩
  refine⟨_,_,rfl,Zbl (by omega),by omega,Zam ?_⟩
  obtain⟨n1,en1,hn1⟩:=cutN c
  rw[en1]
  walk_at "rd"
  refine⟨⟨by decide,by decide⟩,_,_,rfl,Zbl (by omega),by omega,Zam ?_⟩
  obtain⟨n2,en2,hn2⟩:=cutN (c/41)
  rw[en2]
  walk_at "rd"
  refine⟨_,rfl,l,rfl,sz _ (by omega),l.take n1,by rw[Zfp],ForRun.text (fun i σ H'=>∃v7 la ds,σ=[some (tx l),some (tx m),some (.int c),some (.ref g),some (.ref p),some (.int (n1:Nat)),some (.int (n2:Nat)),v7,none]∧StripAt a.c_LG H' p la da ((l.take n1).take i) m ds∧ds.length≤i∧TblOk H' a.t_K1 lpos lq∧LW H H' g cc pw ws) ⟨_,la0,[],rfl,at1,YAQ _,tk1,lw1⟩ ?_ ?_⟩
  ·rintro i x σ H2 hx ⟨v7,la,ds,rfl,at2,dl,tk2,lw2⟩
   have hi:i<(l.take n1).length:=(YAc.mp hx).1
   rw[YAb]at hi
   obtain⟨dx2,f2⟩:=id at2.fld
   walk_at "rd"
   refine⟨p,dx2,_,rfl,f2,sN (by decide +kernel),p,la,da,_,m,ds,_,rfl,at2,by omega,tk2,.inl ⟨x,rfl,lm x (YAY (YAr hx)),by rw[YAb,YAb];omega,fun t c1 g1 la2 H3 q1 q2 q3 q4=>?_⟩⟩
   rw[←ZbP hx]at q2
   exact⟨_,la2,_,rfl,q2,by rw[YAF];exact YDF dl,q4,lw2.chg at2 npd np nda0 q1⟩
  ·rintro σ H2 ⟨v7,la,ds,rfl,at2,dl,tk2,lw2⟩
   rw[YCp]at at2
   rw[YAb]at dl
   walk_at "rd?"
   refine Zam ?_
   walk_at "rd"
   refine⟨g,rfl,_,rfl,l,rfl,sz _ (by omega),cc,.ref pw,lw2.1,trivial,?_⟩
   rw[Zfp]
   obtain⟨b1,b2,b3⟩:=pre at2 lw2
   refine⟨p,pw,_,m,ws,rfl,b1,b2,b3,wsl,wsm,fun H3 s3 o ho=>iteF (Zam ?_)⟩
   have s3:=Zc3 ho s3
   generalize upd H3 cc o=H3 at s3 ⊢
   walk_at "rd"
   refine⟨_,rfl,l,rfl,sz _ (by omega),l.drop n1,by rw[Zb5],ForRun.text (fun i σ H'=>∃v7 la ds,σ=[some (tx l),some (tx m),some (.int c),some (.ref g),some (.ref p),some (.int (n1:Nat)),some (.int (n2:Nat)),v7,none]∧StripAt a.c_LG H' p la da (l.take n1++(l.drop n1).take i) m ds∧ds.length≤40+i∧TblOk H' a.t_K1 lpos lq∧LW H H' g cc pw ws) ⟨_,la,ds,rfl,by rw[List.take_zero,YBt];exact at2.same s3,by omega,tk2.same s3,lw2.same s3⟩ ?_ ?_⟩
   ·rintro i x σ H4 hx ⟨v7,la,ds,rfl,at4,dl,tk4,lw4⟩
    have hi:i<(l.drop n1).length:=(YAc.mp hx).1
    rw[YAm]at hi
    obtain⟨dx2,f2⟩:=id at4.fld
    walk_at "rd"
    refine⟨p,dx2,_,rfl,f2,sN (by decide +kernel),p,la,da,_,m,ds,_,rfl,at4,by omega,tk4,.inl ⟨x,rfl,lm x (YAZ (YAr hx)),by rw[YAF,YAb,YAb,YAm];omega,fun t c1 g1 la2 H5 q1 q2 q3 q4=>?_⟩⟩
    rw[YAh,←ZbP hx]at q2
    exact⟨_,la2,_,rfl,q2,by rw[YAF];exact YDF dl,q4,lw4.chg at4 npd np nda0 q1⟩
   ·rintro σ H4 ⟨v7,la,ds,rfl,at4,dl,tk4,lw4⟩
    rw[YCp,YAk]at at4
    rw[YAm]at dl
    walk_at "rd?"
    refine Zam ?_
    walk_at "rd"
    refine⟨g,rfl,cc,.ref pw,lw4.1,trivial,?_⟩
    obtain⟨b1,b2,b3⟩:=pre at4 lw4
    refine⟨p,pw,_,m,ws,rfl,b1,b2,b3,wsl,wsm,fun H5 s5 o ho=>iteF (Zam ?_)⟩
    have s5:=Zc3 ho s5
    generalize upd H5 cc o=H5 at s5 ⊢
    walk_at "rd"
    refine⟨_,rfl,by omega,by omega,?_⟩
    have en:((n2:Nat):Int).toNat=n2:=by omega
    rw[en]
    refine ForRun.range (fun i σ H'=>∃v8 la ds,σ=[some (tx l),some (tx m),some (.int c),some (.ref g),some (.ref p),some (.int (n1:Nat)),some (.int (n2:Nat)),v7,v8]∧StripAt a.c_LG H' p la da (l.drop i) m ds∧ds.length≤80+i∧TblOk H' a.t_K1 lpos lq∧LW H H' g cc pw ws∧(i=0∨∃ds0 c0,ds=ds0++[(false,c0)]∧l[i-1]?=some c0)) ⟨_,la,ds,rfl,at4.same s5,by omega,tk4.same s5,lw4.same s5,.inl rfl⟩ ?_ ?_
    ·rintro i σ H6 hi ⟨v8,la,ds,rfl,at6,dl,tk6,lw6,_⟩
     obtain⟨dx2,f2⟩:=id at6.fld
     have hil:i<l.length:=by omega
     have ed:l.drop i=l[i]::l.drop (i+1):=YCF hil
     walk_at "rd"
     refine⟨p,dx2,_,rfl,f2,sN (by decide +kernel),p,la,da,l.drop i,m,ds,rfl,at6,by omega,tk6,.inl ⟨l[i],l.drop (i+1),ed,fun t c1 g1 la2 H7 q1 q2 q3 q4=>⟨_,la2,_,rfl,q2,by rw[YAF];exact YDF dl,q4,lw6.chg at6 npd np nda0 q1,.inr ⟨ds,l[i],rfl,by rw[Nat.add_sub_cancel];exact YAM hil⟩⟩⟩⟩
    ·rintro σ H6 ⟨v8,la,ds,rfl,at6,dl,tk6,lw6,last⟩
     walk_at "rd?"
     refine Zam ?_
     walk_at "rd"
     refine⟨g,rfl,_,rfl,l,rfl,sz _ (by omega),cc,.ref pw,lw6.1,trivial,?_⟩
     rw[Zb5]
     obtain⟨b1,b2,b3⟩:=pre at6 lw6
     refine⟨p,pw,_,m,ws,rfl,b1,b2,b3,wsl,wsm,fun H7 s7 o ho=>iteF (Zam ?_)⟩
     have s7:=Zc3 ho s7
     generalize upd H7 cc o=H7 at s7 ⊢
     walk_at "rd"
     refine ite2 (fun h=>?_) (fun _=>q H7 (lw6.same s7).2.2)
     have h0:0<n2:=by have:=of_decide_eq_true h;omega
     rcases last with z | ⟨ds0,c0,e0,h1⟩
     ·omega
     have at7:=at6.same s7
     obtain⟨dx2,f2⟩:=id at7.fld
     refine⟨p,dx2,_,rfl,f2,sN (by decide +kernel),p,la,da,l.drop n2,m,ds,rfl,at7,by omega,tk6.same s7,.inr (.inl ⟨ds0,c0,e0,fun t c1 g1 la2 H8 q1 q2 q3 q4=>?_⟩)⟩
     have e1:((n2:Nat):Int)-1=((n2-1:Nat):Int):=by omega
     have e2:c0::l.drop n2=l.drop (n2-1):=by
      have hl':=(YAc.mp h1).1
      rw[YCF hl',(YAc.mp h1).2]
      congr 2
      omega
     rw[e2]at q2
     have lw8:=(lw6.same s7).chg at7 npd np nda0 q1
     refine⟨g,rfl,_,rfl,l,rfl,sz _ (by omega),cc,.ref pw,lw8.1,trivial,?_⟩
     rw[e1,Zb5]
     obtain⟨b1,b2,b3⟩:=pre q2 lw8
     exact⟨p,pw,_,m,ws,rfl,b1,b2,b3,wsl,wsm,fun H9 s9 o ho=>q _ (lw8.same (Zc3 ho s9)).2.2⟩
theorem Zcj:FnScope ["_law_script","_law_kinds_here","_law_text_here","_law_strip","_law_words","_law_cell_here","_law_thing","_law_way","_law_caught_here"] ["_law_script"] (Zah Zi3):=by walk_at "sc"
theorem ok_law (T:TL K mg base a tb):FnOk P w K mg base CX0 9 a.f_law a.d_law ["_law_script"] (spLaw K tb):=by
 refine T.f_law.okC T.cd_law Zcj (fun vs H Q E h=>?_) (fun A outer s H vs Q E hr h=>?_)
 ·obtain⟨_,_,rfl,_⟩:=h;rfl
 ·have hu64:=hr.units
  have hu1:=ZaM hr
  obtain⟨b,ns,rfl,hS,hl,tk,tkL,q⟩:=h
  refine⟨_,(Zac (Zau (i:=1) Zcj.nd rfl (Or.inr rfl) (Zan (Zpb T) (hr.mono (by decide)) rfl T.m_LB T.f_LB.kp T.b_LB .nil Zay (Zaa (Zan (ZhZ T) (hr.mono (by decide)) rfl T.m_LJ T.f_LJ.kp T.b_LJ .nil Zay (Zaa (pv 0) (Zaa Zag Zab))) Zab)))
   (Zaj (Zac (Zau (i:=2) Zcj.nd rfl (Or.inr rfl) (Zan (Zo8 T) (hr.mono (by decide)) rfl T.m_LL T.f_LL.kp T.b_LL .nil Zay (Zaa (pv 0) (Zaa Zag (Zaa (pv 1) Zab)))))
   (Zaj (Zac (Zau (i:=3) Zcj.nd rfl (Or.inl rfl) (ZfJ T.mk_LF (Zpf T) (hr.mono (by decide)) rfl T.m_LF T.b_KL .nil Zbt (Zaa (pv 2) (Zaa (pv 1) Zab))))
   (Zaj (Zac (Zau (i:=4) Zcj.nd rfl (Or.inr rfl) (ZbK (N:=["_law_cell_here","_law_kinds_here","_law_text_here"]) (ix:=[none,some 1,some 2]) rfl (Zbc rfl) rfl (Zbj (K:=K) rfl (Zat ZeY (ZaC (ZiY (K:=K) rfl) (pv 0) (ZaE Zag) (ZaE Zag)) (Zbo (Zaa Zag Zab)))) (fun _ _ _ _=>(ZaF (i:=0) (show (["_law_cell_here","_law_kinds_here","_law_text_here"]:List Str).Nodup from by decide +kernel) rfl (Or.inl rfl) (Or.inr rfl))) (fun _ _ _ _=>Zcn) (fun _ _ _ _=>(Zan (Zo7 T) (hr.mono (by decide)) rfl T.m_LM T.f_LM.kp T.b_LM .nil Zay (Zaa (pv 0) (Zaa (pv 2) (Zaa (pv 1) Zab)))))))
   (Zaj (Zac (ZaR (Zbq (Za5 (Zan (ZhY T) (hr.mono (by decide)) rfl T.m_LP T.f_LP.kp T.b_LP .nil Zay (Zaa (pv 3) (Zaa (pv 2) (Zaa (pv 4) Zab)))))) (Zaf (Zaq Zbp)) Zav)
   (Zaj (Zac (Zau (i:=5) Zcj.nd rfl (Or.inl rfl) (Zan (Zjf T) (hr.mono (by decide)) rfl T.m_LN T.f_LN.kp T.b_LN .nil Zay (Zaa (Zan (ZhZ T) (hr.mono (by decide)) rfl T.m_LJ T.f_LJ.kp T.b_LJ .nil Zay (Zaa (pv 0) (Zaa Zag Zab))) (Zaa Zag Zab))))
   (Zaj (Zac (ZaR (Zbq (Za5 (ZgY (E:=E0) (fr:="_law_words") (i:=4) (q:="law.<locals>.<lambda>") (Zo6 T) (hr.mono (by decide)) rfl T.m_LO T.f_LO.kp T.b_LO (fun _ _ _ _ h=>h.elim) T.L_law rfl (fun c h=>ZdO (by decide +kernel) h) rfl (by kernel_rfl) rfl rfl rfl (pv 2) (pv 1) (pv 5)))) (Zaf (Zaq Zbp)) Zav)
   (Zaj (Zac (Zau (i:=6) Zcj.nd rfl (Or.inl rfl) (Zan (Zo5 T) (hr.mono (by decide)) rfl T.m_LT T.f_LT.kp T.b_LT .nil Zay (Zaa (pv 1) (Zaa Zag (Zaa (Zan (Zjf T) (hr.mono (by decide)) rfl T.m_LN T.f_LN.kp T.b_LN .nil Zay (Zaa (Zan (ZhZ T) (hr.mono (by decide)) rfl T.m_LJ T.f_LJ.kp T.b_LJ .nil Zay (Zaa (pv 0) (Zaa Zag Zab))) (Zaa Zag Zab))) Zab)))))
   (Zaj (Zac (ZbA YBN rfl (ZbB rfl T.z_range (Zaa Zag Zab)) (ZaF (i:=7) Zcj.nd rfl (Or.inl rfl))
   (Zaj (Zac (Zau (i:=8) Zcj.nd rfl (Or.inl rfl) (Zan (Zph T) (hr.mono (by decide)) rfl T.m_K9 T.f_K9.kp T.b_K9 .nil Zay (Zaa (Zat ZaQ (pv 7) Zag) (Zaa (Zbg (Zbm (K:=K) rfl) (Zbo (Zaa (pv 3) (Zaa (ZfJ T.mk_LG (ZmI T) (hr.mono (by decide)) rfl T.m_LG T.b_KP .nil Zbt (Zaa (pv 1) Zab)) Zab))) (Zat Za1 (pv 7) Zag) (fun _ _=>rfl)) (Zaa (pv 6) Zab)))))
   (Zaj (Zac (ZaR (PW.pt (ZhL (Zbq (Za5 (Zai (Zao (K:=K) rfl) rfl T.z_isinstance Zal (Zaa (pv 8) (Zaa (Zee (v:=.ref a.c_K8) rfl T.m_K8 rfl) Zab))))) (ZeR (Za5 (Zai (Zao (K:=K) rfl) rfl T.z_isinstance Zal (Zaa (pv 8) (Zaa (Zee (v:=.ref a.c_K3) rfl T.m_K3 rfl) Zab))))))) (Zaf (Zaq Zbp)) Zav)
   (Zaj (Zaf (ZaR (PW.pt (ZhL (Zaw (Zmt (K:=K) rfl hu64) (Zgn (K:=K) rfl (pv 8) rfl) (pv 6) (Zax _)) (ZeR (Zaw (Zcd (K:=K) rfl hu64) (Zai (Zao (K:=K) rfl) rfl T.z_isinstance Zal (Zaa (Zgn (K:=K) rfl (pv 8) rfl) (Zaa (ZaD (v:=.ty "bool") rfl T.z_bool ZcM rfl) Zab))) (Zai (Zao (K:=K) rfl) rfl T.z_isinstance Zal (Zaa (pv 6) (Zaa (ZaD (v:=.ty "bool") rfl T.z_bool ZcM rfl) Zab))) (Zax _))))) (Zaf (Zaq Zbp)) Zav))))))))
   (Zaj (Zaf (Zaq (ZaX (ZaH (K:=K) rfl hu64) (Zbk (pv 3) T.cl_LF T.me_Plain_text (Zh0 T) (hr.mono (by decide)) T.b_KU .nil Zay) (pv 2) (Zax _)))))))))))))))))))))),?_⟩
  have sz:∀k:Nat,k≤9000→k≤sizeLine:=fun k h=>YAP h (by rw[sizeLine_eq];decide)
  rw[←T.e_K1]at tk
  rw[←T.e_law]at tkL
  walk_at "rd"
  refine⟨b,ns,0,rfl,hS,by decide,by decide,fun r0=>⟨_,rfl,fun m H1 mk m1 m4 s1=>Zam ?_⟩⟩
  walk_at "rd"
  refine⟨b,ns,1,m,rfl,s1.seq hS,by decide,by decide,m1,m4,fun l H2 ll lm s2=>Zam ?_⟩
  have ok:StripOk l m:=⟨mk,m1,m4,ll,lm⟩
  have kok:=ok.kok
  have s02:=s1.trans s2
  walk_at "rd"
  intro p dx np ndx ne
  refine⟨p,dx,l,m,rfl,Zad,ok,fun Hp fp kp=>⟨rfl,Zam ?_⟩⟩
  have sp:Same H2 Hp:=fun b o e=>kp b o (by rw[Zae (Zak e np),Zae (Zak e ndx)];exact e) (Zak e np)
  have s02:=s02.trans sp
  clear kp
  have rp:BandAt a Hp p l m:=.inl ⟨dx,fp⟩
  walk_at "rd"
  refine⟨_,rfl,_,rfl,b,_,rfl,s02.seq hS,fun pc nc=>?_⟩
  have s3:Same Hp (upd Hp pc (.lst (cutV (ns.map V.int) (some 3) (some 40)))):=Zaz nc
  have lc:upd Hp pc (.lst (cutV (ns.map V.int) (some 3) (some 40))) pc=some (.lst (cutV (ns.map V.int) (some 3) (some 40))):=Zad
  have ac:∀v∈cutV (ns.map V.int) (some 3) (some 40),∃c,v=V.int c:=fun v hv=>ZiC hv
  have lcs:(cutV (ns.map V.int) (some 3) (some 40)).length≤63:=by
   refine YAP (List.length_take_le' _ _) ?_
   rw[YAm,YAE]
   omega
  generalize cutV (ns.map V.int) (some 3) (some 40)=cs at s3 lc ac lcs
  generalize upd Hp pc (.lst cs)=H3 at s3 lc
  refine⟨sz _ (by decide),NewL.of fun p4 H4 s4 n4 l4=>?_⟩
  refine⟨pc,p4,cs,[.int 29],rfl,rfl,s4 _ _ lc,l4,sz _ (by simp;omega),fun p5 n5=>?_⟩
  have s5:Same H4 (upd H4 p5 (.lst (cs++[.int 29]))):=Zaz n5
  have l5:upd H4 p5 (.lst (cs++[.int 29])) p5=some (.lst (cs++[.int 29])):=Zad
  generalize upd H4 p5 (.lst (cs++[.int 29]))=H5 at s5 l5
  have ai:∀v∈cs++[.int 29],∃c,v=V.int c:=fun v hv=>by
   rcases YAe.mp hv with z | z
   ·exact ac v z
   ·exact⟨29,YAS.mp z⟩
  have al:(cs++[V.int 29]).length≤64:=by simp;omega
  generalize cs++[V.int 29]=is at l5 ai al
  have s25:=s3.trans (s4.trans s5)
  have s05:=s02.trans s25
  refine⟨p5,rfl,⟨_,.mk l5⟩,CompRun.dataF (xs:=is) (fun _=>true) (fun _ y _=>∃w,y=tx w∧w.length≤60∧∀x∈w,x∈m) (fun _ _ _ _ _ h=>h) (by omega) (.mk l5) (fun i H' Q' _ _ q=>q H' (Same.refl _)) ?_ ?_⟩
  ·intro i H6 Q6 hi _ s6 q6
   obtain⟨c,ec⟩:=ai _ (YBh hi)
   have eg:is.getD i .non=.int c:=by rw[YAU,YAM hi,ec];rfl
   rw[eg]
   walk_at "rd"
   exact⟨c,l,m,rfl,ll,lm,m1,m4,fun w H7 hw wm s7=>q6 _ H7 s7 ⟨w,rfl,hw,wm⟩⟩
  ·intro pw ys H6 s6 n6 l6 hlen hall
   have hys:∀y∈ys,∃w,y=tx w∧(w.length≤60∧∀x∈w,x∈m):=fun y hy=>by
    obtain⟨k,hk⟩:=List.mem_iff_getElem?.mp hy
    obtain⟨i,_,w,e,h1,h2⟩:=hall k y hk
    exact⟨w,e,h1,h2⟩
   obtain⟨ws,rfl,hws⟩:=words_of hys
   have wsl:ws.length≤100:=by
    have:((List.range is.length).filter fun _=>true).length≤(List.range is.length).length:=YAt ..
    rw[YBV]at this
    rw[YAE]at hlen
    omega
   have s06:=s05.trans s6
   refine Zam ?_
   walk_at "rd"
   refine⟨p,pw,l,m,ws,rfl,rp.same (s25.trans s6),ok,l6,wsl,hws,fun H8 s8=>⟨true,rfl,iteF (Zam ?_)⟩⟩
   have s08:=s06.trans s8
   walk_at "rd"
   refine⟨b,ns,3,rfl,s08.seq hS,by decide,by decide,fun r3=>⟨_,_,rfl,fun r7 _=>Zam ?_⟩⟩
   walk_at "rd"
   refine⟨tkL.same s08,fun g c H9 nc st T9 lam=>⟨l,m,r7,g,c,pw,ws,rfl,ok,st.2 _ _ _ (by decide) (tk.same s08),lam,st.1 _ _ (s8 _ _ l6) rfl,wsl,hws,fun H10 s10=>⟨true,rfl,iteF (Zam ?_)⟩⟩⟩
   have sL:SameL H8 (unf H10 c):=fun b o e n=>by rw[Zbd (Zak e nc)];exact s10 b o (st.1 b o e n) n
   generalize unf H10 c=H11 at sL
   have hS11:=(s08.seq hS).lL sL
   have fp11:H11 p=some (.ins a.c_LF dx (flds l m)):=sL _ _ ((sp.trans s25).trans (s6.trans s8) |> fun z=>(s25.trans (s6.trans s8)) _ _ fp) rfl
   have rp11:BandAt a H11 p l m:=.inl ⟨dx,fp11⟩
   clear lam st T9 nc s10
   walk_at "rd"
   refine⟨b,ns,3,rfl,hS11,by decide,by decide,fun r3'=>⟨_,_,rfl,fun r5 _=>⟨m,60,r5,rfl,kok,by decide,by decide,fun v H12 s12 bw=>Zam ?_⟩⟩⟩
   walk_at "rd"
   have nd:=T.nd
   simp only[YBr,YAK,YBn,or_false,not_or]at nd
   obtain⟨⟨_,n2,_⟩,⟨n3,_⟩,_⟩:=nd
   refine⟨_,rfl,by decide,by decide,ForRun.range (fun i σ H'=>∃v7 v8,σ=[some (.ref b),some (tx m),some (tx l),some (.ref p),some (.ref pw),some (.int r7),some v,v7,v8]∧Same H12 H') ⟨_,_,rfl,Same.refl _⟩ ?_ ?_⟩
   ·rintro i σ H13 hi ⟨v7,v8,rfl,s13⟩
    rw[show (0:Int)+(i:Int)=((i:Nat):Int) by omega]
    walk_at "rd"
    refine Zam ?_
    walk_at "rd"
    refine⟨by decide,fun ps dxs nps ndxs nes=>⟨ps,dxs,_,rfl,Zad,.inl ⟨m,rfl,kok,fun la da H14 at14 nla nda k14=>⟨rfl,sz _ (by decide),NewL.of fun pl H15 s15 n15 l15=>⟨⟨by decide,by decide⟩,?_⟩⟩⟩⟩⟩
    have s14:Same H13 H14:=fun b o e=>k14 b o (by rw[Zae (Zak e nps),Zae (Zak e ndxs)];exact e) (Zak e nps)
    have s1315:=s14.trans s15
    have two:∃pb lb,atI [V.ref p,V.ref ps] (((i:Nat):Int)/4)=some (.ref pb)∧BandT a H15 pb lb m∧lb.length≤40:=by
     by_cases z:i<4
     ·have e:((i:Nat):Int)/4=0:=by omega
      rw[e]
      exact⟨p,l,rfl,(((rp11.same s12).same s13).same s1315).t,ll⟩
     ·have e:((i:Nat):Int)/4=1:=by omega
      rw[e]
      exact⟨ps,[],rfl,(BandAt.same (.inr ⟨la,da,[],at14⟩) s15).t,YAz _⟩
    obtain⟨pb,lb,eb,btb,lbl⟩:=two
    refine⟨pl,_,_,_,rfl,rfl,.mk l15,eb,_,pb,lb,m,v,rfl,btb,lbl,bw.same (s13.trans s1315),fun e H16 s16 x=>Zam ?_⟩
    have s1216:=s13.trans (s1315.trans s16)
    have bw16:=bw.same s1216
    obtain⟨Tn,bb,ty,kb,se⟩:∃Tn bb,TyX K H16 v (.type Tn)∧PySem.W.kitOne K (.type Tn) (.type "bool")=some bb∧Zkp K H16 v:=by
     rcases id bw16 with⟨l,rfl,hl,_⟩|⟨Tn,bb,ty,_,kb,se⟩
     ·exact⟨"str",false,.pl (.str _),Zm4,.inl ⟨_,ownF rfl⟩⟩
     ·exact⟨Tn,bb,ty,kb,se⟩
    walk_at "rd"
    refine⟨_,_,_,_,true,rfl,rfl,.exc x T.xi_K8,Zih T.k_K8 T.k_K8 (by simp[YCB]) (fun _=>rfl),iteF ⟨_,_,_,_,false,rfl,rfl,.exc x T.xi_K8,Zih T.k_K8 T.k_K3 (by simp[YCB,n2,n3,YAx n2,YAx n3]) (fun z=>absurd z n3),iteF (Zam ?_)⟩⟩
    walk_at "rd"
    refine⟨e,_,_,_,rfl,x,T.x_K8.c,T.n_NoWord_word,ZfS,?_⟩
    rcases se with⟨dd,o⟩|⟨b2,kvs,rfl,hb⟩
    ·exact .inl (Zk4 o ⟨false,rfl,iteF ⟨e,_,_,_,rfl,x,T.x_K8.c,T.n_NoWord_word,ZfS,_,_,_,_,bb,rfl,rfl,.ty ty,kb,_,_,_,_,bb,rfl,rfl,.ty ty,kb,.inl ⟨rfl,false,by rw[YAO rfl,decide_eq_true rfl];rfl,iteF ⟨_,_,rfl,s1216⟩⟩⟩⟩)
    ·exact .inr ⟨b2,kvs,rfl,rfl,hb,false,rfl,iteF ⟨e,_,_,_,rfl,x,T.x_K8.c,T.n_NoWord_word,ZfS,_,_,_,_,bb,rfl,rfl,.ty ty,kb,_,_,_,_,bb,rfl,rfl,.ty ty,kb,.inl ⟨rfl,false,by rw[YAO rfl,decide_eq_true rfl];rfl,iteF ⟨_,_,rfl,s1216⟩⟩⟩⟩
   ·rintro σ H13 ⟨v7,v8,rfl,s13⟩
    walk_at "rd?"
    refine Zam ?_
    walk_at "rd"
    refine⟨p,dx,_,rfl,s13 _ _ (s12 _ _ fp11),ZcK (by decide +kernel) (by decide +kernel),p,l,rfl,((rp11.same s12).same s13).t.text,.inl ⟨rfl,?_⟩⟩
    rw[YAJ YAC,decide_eq_true rfl]
    exact q H13
end
end Pk42
structure PySem.W.Fast:Prop where(tw10079193612692331656 tw10107354332384806408 tw10112818720290594334 tw10118138345677915063 tw10150815401273584544 tw10176958820210997490 tw10187725238143197219 tw10359812051391182392 tw10422534993567448080 tw10441528867286355003 tw10456490143966471605 tw1045835378514970716 tw10525586816601520701 tw10541603826137576943 tw10566217871193479934 tw10566893337193082029 tw10568349684225744950 tw10662061325725701205 tw10670993160138182133 tw10688027754513551368 tw10707614675762670338 tw10714312952662895019 tw10718078833874989876 tw10724554820960435151 tw10724699527322791026 tw1079642026597287968 tw10813216678822315260 tw10886255989541024147 tw10893124309431454758 tw10899944820292069189 tw10925479460209601704 tw10961897676978246458 tw10995809917070137716 tw10999810399478107166 tw11054296280509108942 tw11090085450020976245 tw110981587760594467 tw1123693922536269554 tw11264377300723968299 tw112665773187547641 tw11313667775680819920 tw11319648664920612989 tw1133887190476345024 tw11392099395395915980 tw11408698705587483776 tw11474036002617413 tw11499044663632092629 tw11523258831333173483 tw11569611966833430139 tw11604529468515122617 tw11609681539134697360 tw11626281942256796733 tw11643089957534152488 tw11669924779047655549 tw11721424380297231023 tw11749938965092106069 tw11805982312948135154 tw11843280967547989539 tw11853312671986473606 tw11857999729419395683 tw11912287514451623668 tw119248415960679179 tw11930533006085228436 tw11969178981757351361 tw1205230559097073252 tw12070490960552787067 tw12085358399070407670 tw12094784646357132644 tw1211655291068294918 tw12174561884550977836 tw12390839767768266627 tw12422127892206660421 tw12442346280003699686 tw12442402636565493911 tw12466970855293863172 tw12468145658010124289 tw12520903814102175751 tw12527198654807221779 tw12667023757930222906 tw1275609300407038812 tw12770924261262913584 tw12782350033123175298 tw12818051728782199808 tw12859296562895604824 tw12869295397345398274 tw12941643208725429186 tw12970616961596393732 tw1308688693358855008 tw13134869806805921495 tw13253363938913974377 tw133074482007226445 tw13330770509011048753 tw1339650893724211901 tw13413294826143202974 tw13421217451139224427 tw1347098944071550461 tw13483881160502792496 tw13497135448050146942 tw13525446186972079836 tw13528336756381192931 tw13558440862939648437 tw13645245839964542458 tw13666351821838296618 tw13752538061338261512 tw13770411390651027561 tw13825646653413737232 tw13845119379795373049 tw13865082699573145663 tw1390137858946257580 tw13979206667074646665 tw14002597376366135849 tw1410014995516321161 tw14108506904659845843 tw14150044493045774522 tw14187927458203755247 tw14199138773681470289 tw14254194404796068751 tw14274679412189468849 tw14340979386200202884 tw14444476375005022028 tw14522439154382983763 tw14542160882321830849 tw14579826673152440169 tw14580242302049885310 tw1458808469431164589 tw14653359098362645589 tw14653694518564490398 tw14695295472548395030 tw14713154895618703996 tw14718683957882880386 tw14755031499617755735 tw14795207787241427127 tw14817754221185847807 tw14818064570312082473 tw14830668130401157900 tw14865158800410018789 tw15001193538892622599 tw15011248345834829446 tw15068314183931094536 tw15093216443052693589 tw15114664557018333257 tw15120011335299497246 tw15134139287101048742 tw15167529545392165142 tw15179412900902159465 tw15209478875145447368 tw15221942348366687315 tw15260255604038665436 tw15270795606529787069 tw15285996745202331279 tw15286545992655258115 tw15321278416141574314 tw15321595243344084183 tw15348987458677410988 tw1537078125867872999 tw15381585056488373679 tw15389925872509381772 tw1539880767882585908 tw15407889237642458171 tw1542826366579397642 tw15443762435156450776 tw15462736895175502783 tw15472229232511610801 tw15493962609063303824 tw15514580657932227899 tw15516988367762760439 tw15519881112095813281 tw15540662225055514172 tw15546092661375777205 tw15554696213115985237 tw15566654674582825616 tw1558372181639582453 tw15717882425050981271 tw15725468746250045130 tw15785798713074043456 tw15803826708665955913 tw15868444850022534136 tw1589601759858249193 tw16071743925264360444 tw16081445517720594020 tw16121378701730001577 tw16142245079604916131 tw16165982684488624906 tw16181667647781007725 tw16249202209790176819 tw16284039384147198969 tw16298889661379466581 tw16349553904924449764 tw1637378327662945893 tw16374605075419807838 tw16398034350436195872 tw16422879218590137053 tw16493194412053680737 tw16514824478032706063 tw16566867966046138842 tw1658209314989287135 tw16593632375450209706 tw16603669974834599410 tw16609760553233845920 tw16629487930872433361 tw16683350574772165402 tw16730346563310545292 tw16736880958440638990 tw16763700770322097901 tw16832136586393155216 tw16833388819490904876 tw16881423806043098211 tw16910372044523730515 tw16922728004309199465 tw1694263453200266044 tw16949352983338734301 tw16954324142729013102 tw17051674852638610876 tw1708236174863698999 tw17085710843260569402 tw17237286779024702574 tw17243377652619083650 tw17270694068564461046 tw1730345722948079294 tw17435562636441244645 tw17447348900424016576 tw17551208900048159796 tw17555441991347469863 tw17598370427485332129 tw17601818811886373275 tw17619677232905468384 tw17735736820646235778 tw17779351476270741989 tw17785559613931968208 tw17855363584398142644 tw17863494637514207501 tw17911772349514929594 tw17918645846732326910 tw17941394349638742687 tw17949646201531517636 tw17953238442405346328 tw17964904894046627483 tw18115976334674133372 tw18118849922828604918 tw18149899953106713817 tw18167973997488114784 tw1818812512344588197 tw18205346991736724393 tw18283161933806874317 tw18329346589939286951 tw1876902197512679748 tw1882779288429512753 tw1933882291606772314 tw1969116319973833821 tw1975821534768262499 tw198809046691505334 tw2026731592279048163 tw2058079747620054780 tw2073922310745404992 tw2126145039452682644 tw2186222228553638742 tw2203766223498743305 tw2267906631089066965 tw2307651875111056884 tw2320334503765954532 tw236612481806754933 tw2468081553605408966 tw2512996574701817260 tw2543263227456766404 tw263678936639868587 tw2684935930430579610 tw2698517259308872990 tw2722946015603795925 tw2743963157596615164 tw2782704038121658679 tw2784348070379703627 tw281661984453054401 tw2817316985771311779 tw2837756759256002084 tw2873490359489087900 tw2923246761584771719 tw299090306051838896 tw2993353853716133488 tw3046779148663791751 tw3056284784915283609 tw3075464093496983030 tw3132626354086187944 tw3133128031415964888 tw3171291311139855146 tw3237109567228976436 tw3245430939936553251 tw326584604162380189 tw3288711730838191944 tw3309457642912781751 tw331321289130524750 tw3331740352671049209 tw3350604555661991166 tw3383683120695445326 tw3449835099515845051 tw3479596650039878577 tw3497092869432472805 tw349717388560959452 tw3520087741476333782 tw35329532997196072 tw3570808159971801428 tw3575318418078367476 tw3607222257660487749 tw3607497716337183936 tw3618706794431395253 tw3631349091731761161 tw368200207275604227 tw3685881250370022070 tw3700275514266159278 tw3729700340029532687 tw3747776236864046941 tw3773381835325597551 tw3841614713624551590 tw3854540085087023348 tw3890041824048491445 tw3907768885387006569 tw3919901966893586275 tw3994376150268104898 tw3994725286743472478 tw4032423268164944224 tw4059900169640203293 tw4064435245292150295 tw4081587013371384893 tw4111040652639615431 tw422150582685954387 tw4359441452592004482 tw4372307956520605680 tw4378062631659538442 tw4390374717813027155 tw4526587134647366389 tw4538138256491292660 tw4589941745012052509 tw4596412904474891436 tw460006650519186070 tw4634657022380762904 tw4762069160306669841 tw4815545374605248781 tw4877070518367357858 tw4891943825134821742 tw495279546624764678 tw4967624302617777889 tw5022791102666359972 tw5124081360170656372 tw5127929695399933142 tw5146153062790772631 tw5185905024030595211 tw519198758088596814 tw5196200385890652049 tw5255044248221892226 tw5306782617028990485 tw5323110481851763860 tw5357852934340650456 tw5408796027302473261 tw5471344534799119843 tw552484307041411762 tw553321157759655212 tw5545206293887438893 tw5613837251136285722 tw5647660813606946990 tw5670426958203057940 tw5748346775482202501 tw5790272440540407032 tw5807057987437477537 tw5819455174990145401 tw5881978056659333067 tw5908380373515021215 tw5930078956679872114 tw5997289488480932892 tw6021099267117037873 tw6027293176211027704 tw6042003165764597626 tw6047215185096819844 tw6059925848034607845 tw6066567484431432855 tw6092841615493092140 tw6119270389554664228 tw6140079315910198136 tw6262863235655578700 tw6292300107307259213 tw6334078444661165581 tw6335274754411291029 tw6344911503077046668 tw6379920879585784146 tw6590314365742011907 tw6623777519086380625 tw6624091915014591401 tw6649652479825750184 tw6656047817218030887 tw6811876453272249377 tw6819979483644602531 tw6871096655027028851 tw6893700566044676618 tw7058828433214081712 tw7095874114995012634 tw7257606497389648108 tw7278387365326232623 tw7305280157575275320 tw7366893973262158418 tw7394391451013105781 tw7399180023982963918 tw7429076659596968604 tw7474990577211031867 tw7482410813938839432 tw7559294690530981458 tw7565489126304347277 tw7583720167113121691 tw7659448082366982963 tw773102991188255846 tw7794195777041650579 tw7796709177483071654 tw7798988862664371152 tw7823053056644825966 tw7877947797150213952 tw7892858044751659135 tw7893990808832611382 tw7905059632253712544 tw7920094517192578236 tw7986645641225210562 tw7992158077410198152 tw8044863646796041832 tw8066795038915187691 tw8090715771010804771 tw813917979303548309 tw8161769648079611761 tw8168001203775528227 tw81847905521890864 tw8193260320478883008 tw8214534828161601879 tw8300764649206807102 tw8304336762022780068 tw8312293139909997399 tw831946678099584989 tw832959161151066432 tw8465464172692791477 tw8516653220515683917 tw8580912182248722891 tw8604644007038810407 tw8686452237029095182 tw8692800524879248640 tw8735082876645126372 tw8739652850383508781 tw8752280031026770899 tw8760589897269880645 tw8812430235230349914 tw8846548253793225885 tw8885181711197654849 tw8892697414357852649 tw8910554762730024673 tw8923674753767929668 tw8970492281797980308 tw9019184141315087838 tw9041432671208523309 tw9136703623224640545 tw9139518502208604951 tw9164193372166972542 tw9196077162113712418 tw9212170144085737877 tw9249752011993839093 tw9274145059247285044 tw9294902850280534572 tw9316756110866422109 tw9317036647590702284 tw9391599348467691903 tw9434141175785870205 tw9534461359547565539 tw9550186820517079526 tw9559970129669987409 tw9583613078472834227 tw9626822103913892166 tw9711649355675816001 tw9756587533404263810 tw9797763199648570872 tw9866259442215938324 tw9948321914481412082 tw9955979971925896953 tw9966192426316478147:True)
open PySem PySem.W PyProof.Rows
set_option maxRecDepth 100000 in
set_option maxHeartbeats 0 in
theorem PySem.Challenge.cw_lackword_k42_places_counted_holds : PySem.Challenge.rw_lackword_k42_places_counted.Holds := by
 w_on;o_law;k_head;(case hw=>w_witness2)
 k_fill
 refine L2.walk_ofT (l:=PySem.Challenge.rw_lackword_k42_places_counted) (n:=63) (k:=9) (x:="_law_script") (CX:=L2.CX0) (sp:=Pk42.spLaw) ["in_order","law"] rfl (by decide) rfl ⟨rfl,by decide,by decide⟩ (fun w h Y=>PySem.W.km_in_of Y) (fun _=>by kernel_rfl) (by kernel_rfl) ?F ?S ?C
 case F=>
  intro w mg fa h tb KX G hmg hT
  have T:∃t,Pk42.Txt (L2.KOf KX) mg t∧t.t_K1=(tb "in_order").2∧t.k_K1=(tb "in_order").1∧t.t_law=(tb "law").2∧t.k_law=(tb "law").1:=by
   dsimp only[L2.KOf]
   apply Pk42.txt_mk (t_K1:=(tb "in_order").2) (k_K1:=(tb "in_order").1) (t_law:=(tb "law").2) (k_law:=(tb "law").1) KX G
   (apply L2.xg_mk;(iterate 2 k_is);rfl;(iterate 10 k_is);rfl;rfl)
   iterate 4 k_is
   (apply L2.xg_mk;(iterate 2 k_is);rfl;(iterate 10 k_is);rfl;rfl)
   k_is
   (apply L2.mg_mk;iterate 4 k_is)
   k_is
   (apply L2.xg_mk;(iterate 2 k_is);rfl;(iterate 10 k_is);rfl;rfl)
   k_is
   (apply L2.xg_mk;(iterate 2 k_is);rfl;(iterate 10 k_is);rfl;rfl)
   k_is
   (apply L2.xg_mk;(iterate 2 k_is);rfl;(iterate 10 k_is);rfl;rfl)
   k_is
   (apply L2.xg_mk;(iterate 2 k_is);rfl;(iterate 10 k_is);rfl;rfl)
   iterate 59 k_is
   iterate 13 (apply L2.mg_mk;iterate 4 k_is)
   decide
   iterate 31 (apply L2.dg_mk;iterate 4 k_is)
   iterate 18 k_is
  obtain⟨t,T,et_K1,ek_K1,et_law,ek_law⟩:=T
  have e0:=hmg.symm.trans T.m_law
  cases e0
  have cd_K1:t.d_K1.code=.ref t.k_K1:=by
   obtain⟨o,e1,e2⟩:=T.f_K1.at KX
   rw[ek_K1]
   exact(hT "in_order" (by simp)).codeEq T.m_K1 e1 e2
  have cd_law:t.d_law.code=.ref t.k_law:=by
   obtain⟨o,e1,e2⟩:=T.f_law.at KX
   rw[ek_law]
   exact(hT "law" (by simp)).codeEq T.m_law e1 e2
  refine' ⟨_,?b,fun base kb nb hL=>Pk42.ok_law (tb:=tb) { T with L_in_order:=by rw[et_K1,ek_K1];exact hL "in_order" (by simp),cd_K1:=cd_K1,e_K1:=et_K1,L_law:=by rw[et_law,ek_law];exact hL "law" (by simp),cd_law:=cd_law,e_law:=et_law }⟩
  exact T.bl
 case S=>exact fun K tb H a ns hl hP hS=>⟨a,ns,rfl,hS,hl,L2.tbl_new (hP "in_order" (by simp)),L2.tbl_new (hP "law" (by simp)),fun _=>rfl⟩
 case C=>exact fun _ _ _ _ z=>z
#print axioms PySem.Challenge.cw_lackword_k42_places_counted_holds
